import PyProof.Rows.All
import Wide.All
import OpenK.AllK
import Wide.FinOn
import HandS.ForMost
import HandS.Wide
import HandS.Deep
import HandS.IsInst
import HandS.Small
import HandS.TupAny
import HandS.DictTup
import HandS.Conv
import HandS.Iter
import HandS.SortInts
import HandS.More
import HandS.DictComp
import PySem.Challenge.RW_newsflood_k02_a_house_alone
set_option Elab.async false
set_option linter.all false
set_option maxRecDepth 100000
set_option maxHeartbeats 1000000
namespace EE
open PySem PySem.Spec PyProof.Rows L2
abbrev Fg := PySem.W.Frag
inductive EV where
  | non | bl (b : Bool) | int (i : Int) | str (x : Str) | ref (n : Nat) | ty (n : String) | tup (xs : List EV)
  deriving Inhabited
inductive EO where
  | lst (xs : List EV) | ro (xs : List EV) | dic (t : Bool) (kvs : List (EV × EV)) | lkd (t : Bool) (kvs : List (EV × EV)) | obj (c : Nat) (fs : List (Option EV))
  deriving Inhabited
abbrev ES := List (Option EV)
abbrev EH := List EO
abbrev Rho := List (Bool × Addr)
def adr (ρ : Rho) (n : Nat) : Option Addr := (ρ[n]?).map (·.2)
mutual
def VR (K : Fg) (ρ : Rho) (H : Hp) : EV → V → Prop
  | .non, v => v = .non
  | .bl b, v => v = .bl b
  | .int i, v => v = .int i
  | .str x, v => v = .str x
  | .ref n, v => ∃ a, adr ρ n = some a ∧ v = .ref a
  | .ty n, v => v = .ty n
  | .tup xs, v => ∃ a vs, v = .ref a ∧ H a = some (.tup vs) ∧ VRs K ρ H xs vs
def VRs (K : Fg) (ρ : Rho) (H : Hp) : List EV → List V → Prop
  | [], vs => vs = []
  | x :: xs, vs => ∃ v r, vs = v :: r ∧ VR K ρ H x v ∧ VRs K ρ H xs r
end
structure Ext0 (K : Fg) (ρ ρ' : Rho) (H H' : Hp) : Prop where
  pre : ∃ t, ρ' = ρ ++ t
  tup : ∀ a xs, H a = some (.tup xs) → H' a = some (.tup xs)
  frz : ∀ a o u, H a = some (.frz o u) → H' a = some (.frz o u)
structure Ext (K : Fg) (ρ ρ' : Rho) (H H' : Hp) : Prop extends Ext0 K ρ ρ' H H' where
  new : ∀ a, (true, a) ∈ ρ' → (true, a) ∈ ρ ∨ H a = none
  rest : ∀ a o, H a = some o → (true, a) ∉ ρ → H' a = some o
theorem Ext.refl (K : Fg) (ρ : Rho) (H : Hp) : Ext K ρ ρ H H :=
  ⟨⟨⟨[], by simp⟩, fun _ _ h => h, fun _ _ _ h => h⟩, fun _ h => .inl h, fun _ _ h _ => h⟩
theorem Ext.trans {K : Fg} {ρ ρ1 ρ2 : Rho} {H H1 H2 : Hp} (a : Ext K ρ ρ1 H H1) (b : Ext K ρ1 ρ2 H1 H2) : Ext K ρ ρ2 H H2 := by
  obtain ⟨t1, e1⟩ := a.pre
  obtain ⟨t2, e2⟩ := b.pre
  refine ⟨⟨⟨t1 ++ t2, by rw [e2, e1, List.append_assoc]⟩, fun x xs h => b.tup _ _ (a.tup _ _ h), fun x o u h => b.frz _ _ _ (a.frz _ _ _ h)⟩, fun x h => ?_, fun x o h hn => ?_⟩
  · rcases b.new x h with h1 | h1
    · exact a.new x h1
    · by_cases hx : (true, x) ∈ ρ
      · exact .inl hx
      · right
        cases q : H x with
        | none => rfl
        | some o =>
          have := a.rest x o q hx
          rw [h1] at this
          cases this
  · have h1 := a.rest x o h hn
    refine b.rest x o h1 fun hm => ?_
    rcases a.new x hm with z | z
    · exact hn z
    · rw [h] at z
      cases z
theorem Ext0.at {K : Fg} {ρ ρ' : Rho} {H H' : Hp} (e : Ext0 K ρ ρ' H H') {n : Nat} {a : Bool × Addr} (h : ρ[n]? = some a) : ρ'[n]? = some a := by
  obtain ⟨t, rfl⟩ := e.pre
  rw [List.getElem?_append_left (List.getElem?_eq_some_iff.mp h).1]
  exact h
theorem Ext0.get {K : Fg} {ρ ρ' : Rho} {H H' : Hp} (e : Ext0 K ρ ρ' H H') {n : Nat} {a : Addr} (h : adr ρ n = some a) : adr ρ' n = some a := by
  unfold adr at h ⊢
  obtain ⟨b, h1, h2⟩ := Option.map_eq_some_iff.mp h
  rw [e.at h1]
  exact congrArg some h2
theorem adr_of {ρ : Rho} {n : Nat} {b : Bool} {a : Addr} (h : ρ[n]? = some (b, a)) : adr ρ n = some a := by
  unfold adr
  rw [h]
  rfl
mutual
theorem VR.mono0 {K : Fg} {ρ ρ' : Rho} {H H' : Hp} (e : Ext0 K ρ ρ' H H') : ∀ (x : EV) (v : V), VR K ρ H x v → VR K ρ' H' x v
  | .non, v, h => by simp only [VR] at h ⊢; exact h
  | .bl b, v, h => by simp only [VR] at h ⊢; exact h
  | .int i, v, h => by simp only [VR] at h ⊢; exact h
  | .str s, v, h => by simp only [VR] at h ⊢; exact h
  | .ty n, v, h => by simp only [VR] at h ⊢; exact h
  | .ref n, v, h => by
    simp only [VR] at h ⊢
    obtain ⟨a, h1, h2⟩ := h
    exact ⟨a, e.get h1, h2⟩
  | .tup xs, v, h => by
    simp only [VR] at h ⊢
    obtain ⟨a, vs, h1, h2, h3⟩ := h
    exact ⟨a, vs, h1, e.tup _ _ h2, VRs.mono0 e xs vs h3⟩
theorem VRs.mono0 {K : Fg} {ρ ρ' : Rho} {H H' : Hp} (e : Ext0 K ρ ρ' H H') : ∀ (xs : List EV) (vs : List V), VRs K ρ H xs vs → VRs K ρ' H' xs vs
  | [], vs, h => by simp only [VRs] at h ⊢; exact h
  | x :: xs, vs, h => by
    simp only [VRs] at h ⊢
    obtain ⟨v, r, h1, h2, h3⟩ := h
    exact ⟨v, r, h1, VR.mono0 e x v h2, VRs.mono0 e xs r h3⟩
end
theorem VR.mono {K : Fg} {ρ ρ' : Rho} {H H' : Hp} (e : Ext K ρ ρ' H H') (x : EV) (v : V) (h : VR K ρ H x v) : VR K ρ' H' x v := VR.mono0 e.toExt0 x v h
theorem VRs.mono {K : Fg} {ρ ρ' : Rho} {H H' : Hp} (e : Ext K ρ ρ' H H') (x : List EV) (v : List V) (h : VRs K ρ H x v) : VRs K ρ' H' x v := VRs.mono0 e.toExt0 x v h
section
variable {K : Fg} {ρ : Rho} {H : Hp}
theorem vr_non {v : V} : VR K ρ H .non v ↔ v = .non := by simp only [VR]
theorem vr_bl {b : Bool} {v : V} : VR K ρ H (.bl b) v ↔ v = .bl b := by simp only [VR]
theorem vr_int {i : Int} {v : V} : VR K ρ H (.int i) v ↔ v = .int i := by simp only [VR]
theorem vr_str {i : Str} {v : V} : VR K ρ H (.str i) v ↔ v = .str i := by simp only [VR]
theorem vr_ty {n : String} {v : V} : VR K ρ H (.ty n) v ↔ v = .ty n := by simp only [VR]
theorem vr_ref {n : Nat} {v : V} : VR K ρ H (.ref n) v ↔ ∃ a, adr ρ n = some a ∧ v = .ref a := by simp only [VR]
theorem vr_tup {xs : List EV} {v : V} : VR K ρ H (.tup xs) v ↔ ∃ a vs, v = .ref a ∧ H a = some (.tup vs) ∧ VRs K ρ H xs vs := by simp only [VR]
theorem vrs_nil {vs : List V} : VRs K ρ H [] vs ↔ vs = [] := by simp only [VRs]
theorem vrs_cons {x : EV} {xs : List EV} {vs : List V} : VRs K ρ H (x :: xs) vs ↔ ∃ v r, vs = v :: r ∧ VR K ρ H x v ∧ VRs K ρ H xs r := by simp only [VRs]
theorem VRs.length : ∀ {xs : List EV} {vs : List V}, VRs K ρ H xs vs → xs.length = vs.length
  | [], vs, h => by rw [vrs_nil] at h; subst h; rfl
  | x :: xs, vs, h => by
    obtain ⟨v, r, rfl, _, h2⟩ := vrs_cons.mp h
    rw [List.length_cons, List.length_cons, VRs.length h2]
theorem VRs.get : ∀ {xs : List EV} {vs : List V} {i : Nat} {x : EV}, VRs K ρ H xs vs → xs[i]? = some x → ∃ v, vs[i]? = some v ∧ VR K ρ H x v
  | [], _, _, _, _, e => by simp at e
  | x :: xs, vs, i, y, h, e => by
    obtain ⟨v, r, rfl, h1, h2⟩ := vrs_cons.mp h
    cases i with
    | zero =>
      simp only [List.getElem?_cons_zero, Option.some.injEq] at e
      subst e
      exact ⟨v, rfl, h1⟩
    | succ i =>
      simp only [List.getElem?_cons_succ] at e ⊢
      exact VRs.get h2 e
theorem VRs.append : ∀ {xs ys : List EV} {vs us : List V}, VRs K ρ H xs vs → VRs K ρ H ys us → VRs K ρ H (xs ++ ys) (vs ++ us)
  | [], ys, vs, us, h, g => by rw [vrs_nil] at h; subst h; exact g
  | x :: xs, ys, vs, us, h, g => by
    obtain ⟨v, r, rfl, h1, h2⟩ := vrs_cons.mp h
    exact vrs_cons.mpr ⟨v, r ++ us, rfl, h1, VRs.append h2 g⟩
theorem VRs.one {x : EV} {v : V} (h : VR K ρ H x v) : VRs K ρ H [x] [v] := vrs_cons.mpr ⟨v, [], rfl, h, vrs_nil.mpr rfl⟩
theorem VRs.set {x : EV} {v : V} (hx : VR K ρ H x v) : ∀ {xs : List EV} {vs : List V} (i : Nat), VRs K ρ H xs vs → VRs K ρ H (xs.set i x) (vs.set i v)
  | [], vs, i, h => by rw [vrs_nil] at h; subst h; exact vrs_nil.mpr rfl
  | y :: xs, vs, i, h => by
    obtain ⟨u, r, rfl, h1, h2⟩ := vrs_cons.mp h
    cases i with
    | zero => exact vrs_cons.mpr ⟨v, r, rfl, hx, h2⟩
    | succ i => exact vrs_cons.mpr ⟨u, r.set i v, rfl, h1, VRs.set hx i h2⟩
theorem VRs.take : ∀ {xs : List EV} {vs : List V} (n : Nat), VRs K ρ H xs vs → VRs K ρ H (xs.take n) (vs.take n)
  | xs, vs, 0, h => by simp only [List.take_zero]; exact vrs_nil.mpr rfl
  | [], vs, n + 1, h => by rw [vrs_nil] at h; subst h; exact vrs_nil.mpr rfl
  | x :: xs, vs, n + 1, h => by
    obtain ⟨v, r, rfl, h1, h2⟩ := vrs_cons.mp h
    exact vrs_cons.mpr ⟨v, r.take n, rfl, h1, VRs.take n h2⟩
theorem VRs.drop : ∀ {xs : List EV} {vs : List V} (n : Nat), VRs K ρ H xs vs → VRs K ρ H (xs.drop n) (vs.drop n)
  | xs, vs, 0, h => h
  | [], vs, n + 1, h => by rw [vrs_nil] at h; subst h; exact vrs_nil.mpr rfl
  | x :: xs, vs, n + 1, h => by
    obtain ⟨v, r, rfl, h1, h2⟩ := vrs_cons.mp h
    exact VRs.drop n h2
theorem VRs.ints : ∀ (ns : List Int), VRs K ρ H (ns.map EV.int) (ns.map V.int)
  | [] => vrs_nil.mpr rfl
  | n :: ns => vrs_cons.mpr ⟨.int n, ns.map V.int, rfl, vr_int.mpr rfl, VRs.ints ns⟩
theorem VRs.of_ints : ∀ {ns : List Int} {vs : List V}, VRs K ρ H (ns.map EV.int) vs → vs = ns.map V.int
  | [], vs, h => vrs_nil.mp h
  | n :: ns, vs, h => by
    obtain ⟨v, r, rfl, h1, h2⟩ := vrs_cons.mp h
    rw [vr_int.mp h1, VRs.of_ints h2]
    rfl
end
structure Gx where
  K : Fg
  ct : Nat → Addr × List Str
def RoL (K : Fg) (H : Hp) (a : Addr) (xs : List V) : Prop :=
  (∃ o, H a = some (.frz o (.lst xs))) ∨
    ∃ (o : Obj) (its : Array Value) (n : Nat), K.lookup a = some o ∧ o.cls = .type "list" ∧ o.dict = none ∧ o.data = .seq its n ∧ its.size ≤ sizeLine ∧ Vals xs its.toList
theorem RoL.sq {K : Fg} {H : Hp} {a : Addr} {xs : List V} (h : RoL K H a xs) : SqL K H a xs := by
  rcases h with ⟨o, h⟩ | h
  · exact .inl (.inr ⟨o, h⟩)
  · exact .inr h
theorem RoL.mono {K : Fg} {ρ ρ' : Rho} {H H' : Hp} (e : Ext0 K ρ ρ' H H') {a : Addr} {xs : List V} (h : RoL K H a xs) : RoL K H' a xs := by
  rcases h with ⟨o, h⟩ | h
  · exact .inl ⟨o, e.frz _ _ _ h⟩
  · exact .inr h
def keyOf : EV → Option Key
  | .int i => some (.inl i)
  | .str x => some (.inr x)
  | _ => none
def keysOf : List EV → Option (List Key)
  | [] => some []
  | x :: xs => match keyOf x, keysOf xs with
    | some k, some ks => some (k :: ks)
    | _, _ => none
def tkeyOf : EV → Option (List Key)
  | .tup xs => keysOf xs
  | _ => none
def KR {κ : Type} (f : EV → Option κ) (R : EV → V → Prop) : List (EV × EV) → List (κ × V) → Prop
  | [], l => l = []
  | p :: ps, l => ∃ k v r, l = (k, v) :: r ∧ f p.1 = some k ∧ R p.2 v ∧ KR f R ps r
def FR (R : EV → V → Prop) : Option EV → Option V → Prop
  | some x, some v => R x v
  | none, none => True
  | _, _ => False
def DR (R : EV → V → Prop) (t : Bool) (kvs : List (EV × EV)) (u : HO) : Prop := match t with
  | false => ∃ l, u = .dK l ∧ KR keyOf R kvs l
  | true => ∃ l, u = .dT l ∧ KR tkeyOf R kvs l
def OR (G : Gx) (ρ : Rho) (H : Hp) : EO → Addr → Prop
  | .lst xs, a => ∃ vs, H a = some (.lst vs) ∧ VRs G.K ρ H xs vs
  | .ro xs, a => ∃ vs, RoL G.K H a vs ∧ VRs G.K ρ H xs vs
  | .dic t kvs, a => ∃ u, H a = some u ∧ DR (VR G.K ρ H) t kvs u
  | .lkd t kvs, a => ∃ f u, H a = some (.frz f u) ∧ DR (VR G.K ρ H) t kvs u
  | .obj c fs, a => ∃ dx l, H a = some (.ins (G.ct c).1 dx l) ∧ fs.length = (G.ct c).2.length ∧ l.length ≤ (fs.filter fun z => z.isSome).length ∧
      (∀ (i : Nat) (x : Option EV), fs[i]? = some x → ∀ m, (G.ct c).2[i]? = some m → FR (VR G.K ρ H) x (l.lookup m)) ∧ ∀ m, m ∉ (G.ct c).2 → l.lookup m = none
def EO.mu : EO → Bool
  | .ro _ => false
  | _ => true
structure HR (G : Gx) (ρ : Rho) (H : Hp) (eh : EH) : Prop where
  len : ρ.length = eh.length
  dis : ∀ (m n : Nat) (a : Addr), ρ[m]? = some (true, a) → ρ[n]? = some (true, a) → m = n
  obj : ∀ (n : Nat) (o : EO), eh[n]? = some o → ∃ a, ρ[n]? = some (o.mu, a) ∧ OR G ρ H o a
theorem KR.mono {κ : Type} {f : EV → Option κ} {R R' : EV → V → Prop} (h : ∀ x v, R x v → R' x v) : ∀ {ps : List (EV × EV)} {l : List (κ × V)}, KR f R ps l → KR f R' ps l
  | [], _, q => q
  | p :: ps, _, ⟨k, v, r, e, h1, h2, h3⟩ => ⟨k, v, r, e, h1, h _ _ h2, KR.mono h h3⟩
theorem FR.mono {R R' : EV → V → Prop} (h : ∀ x v, R x v → R' x v) : ∀ {x : Option EV} {v : Option V}, FR R x v → FR R' x v
  | some _, some _, q => h _ _ q
  | none, none, _ => trivial
  | some _, none, q => q.elim
  | none, some _, q => q.elim
theorem DR.mono {R R' : EV → V → Prop} (h : ∀ x v, R x v → R' x v) : ∀ {t : Bool} {kvs : List (EV × EV)} {u : HO}, DR R t kvs u → DR R' t kvs u
  | false, _, _, ⟨l, e, q⟩ => ⟨l, e, q.mono h⟩
  | true, _, _, ⟨l, e, q⟩ => ⟨l, e, q.mono h⟩
theorem DR.mt {R : EV → V → Prop} : ∀ {t : Bool} {kvs : List (EV × EV)} {u : HO}, DR R t kvs u → L2.Mut (some u)
  | false, _, _, ⟨l, e, q⟩ => by subst e; exact True.intro
  | true, _, _, ⟨l, e, q⟩ => by subst e; exact True.intro
theorem DR.ntup {R : EV → V → Prop} : ∀ {t : Bool} {kvs : List (EV × EV)} {u : HO}, DR R t kvs u → ∀ xs, u ≠ .tup xs
  | false, _, _, ⟨l, e, q⟩, _, z => by subst e; cases z
  | true, _, _, ⟨l, e, q⟩, _, z => by subst e; cases z
theorem DR.nfrz {R : EV → V → Prop} : ∀ {t : Bool} {kvs : List (EV × EV)} {u : HO}, DR R t kvs u → ∀ o v, u ≠ .frz o v
  | false, _, _, ⟨l, e, q⟩, _, _, z => by subst e; cases z
  | true, _, _, ⟨l, e, q⟩, _, _, z => by subst e; cases z
theorem OR.keep {G : Gx} {ρ ρ' : Rho} {H H' : Hp} (e : Ext0 G.K ρ ρ' H H') {o : EO} {a : Addr} (hb : o.mu = true → H' a = H a) (h : OR G ρ H o a) : OR G ρ' H' o a := by
  have m := fun x v => VR.mono0 (K := G.K) (ρ := ρ) (ρ' := ρ') (H := H) (H' := H') e x v
  cases o with
  | lst xs =>
    obtain ⟨vs, h1, h2⟩ := h
    exact ⟨vs, by rw [hb rfl]; exact h1, VRs.mono0 e _ _ h2⟩
  | ro xs =>
    obtain ⟨vs, h1, h2⟩ := h
    exact ⟨vs, h1.mono e, VRs.mono0 e _ _ h2⟩
  | dic t kvs =>
    obtain ⟨u, h1, h2⟩ := h
    exact ⟨u, by rw [hb rfl]; exact h1, h2.mono m⟩
  | lkd t kvs =>
    obtain ⟨f, u, h1, h2⟩ := h
    exact ⟨f, u, by rw [hb rfl]; exact h1, h2.mono m⟩
  | obj c fs =>
    obtain ⟨dx, l, h1, h2, h3, h4, h5⟩ := h
    exact ⟨dx, l, by rw [hb rfl]; exact h1, h2, h3, fun i x hx n hn => (h4 i x hx n hn).mono m, h5⟩
theorem OR.there {G : Gx} {ρ : Rho} {H : Hp} {o : EO} {a : Addr} (hm : o.mu = true) (h : OR G ρ H o a) : ∃ u, H a = some u ∧ ∀ xs, u ≠ .tup xs := by
  cases o with
  | lst xs =>
    obtain ⟨vs, h1, _⟩ := h
    exact ⟨_, h1, fun _ z => by cases z⟩
  | ro xs => cases hm
  | dic t kvs =>
    obtain ⟨u, h1, h2⟩ := h
    exact ⟨u, h1, h2.ntup⟩
  | lkd t kvs =>
    obtain ⟨f, u, h1, h2⟩ := h
    exact ⟨_, h1, fun _ z => by cases z⟩
  | obj c fs =>
    obtain ⟨dx, l, h1, _⟩ := h
    exact ⟨_, h1, fun _ z => by cases z⟩
theorem Ext.alloc {K : Fg} {ρ : Rho} {H : Hp} {p : Addr} (u : HO) (hp : H p = none) : Ext K ρ (ρ ++ [(true, p)]) H (upd H p u) where
  pre := ⟨[(true, p)], rfl⟩
  tup := fun a xs h => by rw [upd_ne (ne_of_none h hp)]; exact h
  frz := fun a o v h => by rw [upd_ne (ne_of_none h hp)]; exact h
  new := fun a h => by
    rcases List.mem_append.mp h with h | h
    · exact .inl h
    · have := List.mem_singleton.mp h
      cases this
      exact .inr hp
  rest := fun a o h _ => by rw [upd_ne (ne_of_none h hp)]; exact h
theorem Ext.side {K : Fg} {ρ : Rho} {H : Hp} {p : Addr} (u : HO) (hp : H p = none) : Ext K ρ ρ H (upd H p u) where
  pre := ⟨[], by simp⟩
  tup := fun a xs h => by rw [upd_ne (ne_of_none h hp)]; exact h
  frz := fun a o v h => by rw [upd_ne (ne_of_none h hp)]; exact h
  new := fun a h => .inl h
  rest := fun a o h _ => by rw [upd_ne (ne_of_none h hp)]; exact h
theorem Ext.write {K : Fg} {ρ : Rho} {H : Hp} {n : Nat} {p : Addr} {u0 : HO} (u : HO) (hn : ρ[n]? = some (true, p)) (h0 : H p = some u0) (ht : ∀ xs, u0 ≠ .tup xs) (hf : ∀ o v, u0 ≠ .frz o v) : Ext K ρ ρ H (upd H p u) where
  pre := ⟨[], by simp⟩
  tup := fun a xs h => by
    rw [upd_ne]
    · exact h
    · intro e
      subst e
      rw [h0] at h
      cases h
      exact ht _ rfl
  frz := fun a o v h => by
    rw [upd_ne]
    · exact h
    · intro e
      subst e
      rw [h0] at h
      cases h
      exact hf _ _ rfl
  new := fun a h => .inl h
  rest := fun a o h hx => by
    rw [upd_ne]
    · exact h
    · intro e
      subst e
      exact hx (List.mem_of_getElem? hn)
theorem Ext.mut {K : Fg} {ρ ρ' : Rho} {H H' : Hp} {p : Addr} {u : HO} (e : Ext K ρ ρ' H H') (hp : H p = none) : Ext K ρ ρ' H (upd H' p u) where
  pre := e.pre
  tup := fun a xs h => by rw [upd_ne (ne_of_none h hp)]; exact e.tup _ _ h
  frz := fun a o v h => by rw [upd_ne (ne_of_none h hp)]; exact e.frz _ _ _ h
  new := e.new
  rest := fun a o h hx => by rw [upd_ne (ne_of_none h hp)]; exact e.rest _ _ h hx
theorem Ext.push {K : Fg} {ρ ρ' : Rho} {H H' : Hp} {p : Addr} (e : Ext K ρ ρ' H H') (hp : H p = none) : Ext K ρ (ρ' ++ [(true, p)]) H H' where
  pre := by
    obtain ⟨t, ht⟩ := e.pre
    exact ⟨t ++ [(true, p)], by rw [ht, List.append_assoc]⟩
  tup := e.tup
  frz := e.frz
  new := fun a h => by
    rcases List.mem_append.mp h with h | h
    · exact e.new a h
    · have := List.mem_singleton.mp h
      cases this
      exact .inr hp
  rest := e.rest
theorem HR.ext {G : Gx} {ρ : Rho} {H : Hp} {eh : EH} (h : HR G ρ H eh) {H' : Hp} (e : Ext0 G.K ρ ρ H H') (hk : ∀ a, (true, a) ∈ ρ → H' a = H a) : HR G ρ H' eh where
  len := h.len
  dis := h.dis
  obj := fun n o ho => by
    obtain ⟨a, ha, hO⟩ := h.obj n o ho
    refine ⟨a, ha, hO.keep e fun hm => hk a ?_⟩
    rw [hm] at ha
    exact List.mem_of_getElem? ha
theorem HR.at {G : Gx} {ρ : Rho} {H : Hp} {eh : EH} (h : HR G ρ H eh) {a : Addr} (hm : (true, a) ∈ ρ) : ∃ (n : Nat) (o : EO), ρ[n]? = some (true, a) ∧ eh[n]? = some o ∧ o.mu = true ∧ OR G ρ H o a := by
  obtain ⟨n, hn⟩ := List.mem_iff_getElem?.mp hm
  have hl : n < eh.length := by
    rw [← h.len]
    exact (List.getElem?_eq_some_iff.mp hn).1
  obtain ⟨a', ha, hO⟩ := h.obj n _ (List.getElem?_eq_getElem hl)
  rw [hn] at ha
  simp only [Option.some.injEq, Prod.mk.injEq] at ha
  obtain ⟨h1, rfl⟩ := ha
  exact ⟨n, _, hn, List.getElem?_eq_getElem hl, h1.symm, hO⟩
theorem HR.fresh {G : Gx} {ρ : Rho} {H : Hp} {eh : EH} (h : HR G ρ H eh) {p : Addr} (hp : H p = none) : (true, p) ∉ ρ := fun hm => by
  obtain ⟨n, o, _, _, h1, h2⟩ := h.at hm
  obtain ⟨u, hu, _⟩ := h2.there h1
  rw [hp] at hu
  cases hu
theorem HR.side {G : Gx} {ρ : Rho} {H : Hp} {eh : EH} (h : HR G ρ H eh) {p : Addr} (u : HO) (hp : H p = none) : HR G ρ (upd H p u) eh :=
  h.ext (Ext.side u hp).toExt0 fun a ha => upd_ne fun e => h.fresh hp (e ▸ ha)
theorem HR.push {G : Gx} {ρ : Rho} {H : Hp} {eh : EH} (h : HR G ρ H eh) {p : Addr} {o : EO} (hp : (true, p) ∉ ρ) (hm : o.mu = true) (ho : OR G (ρ ++ [(true, p)]) H o p) : HR G (ρ ++ [(true, p)]) H (eh ++ [o]) where
  len := by simp [h.len]
  dis := fun m n a e1 e2 => by
    have key : ∀ (k : Nat), (ρ ++ [(true, p)])[k]? = some (true, a) → (ρ[k]? = some (true, a) ∧ a ≠ p) ∨ (k = ρ.length ∧ a = p) := by
      intro k hk
      have hl : k < (ρ ++ [(true, p)]).length := (List.getElem?_eq_some_iff.mp hk).1
      simp only [List.length_append, List.length_singleton] at hl
      by_cases hk2 : k < ρ.length
      · rw [List.getElem?_append_left hk2] at hk
        exact .inl ⟨hk, fun e => hp (e ▸ List.mem_of_getElem? hk)⟩
      · have : k = ρ.length := by omega
        subst this
        rw [List.getElem?_append_right (Nat.le_refl _), Nat.sub_self] at hk
        simp only [List.getElem?_cons_zero, Option.some.injEq, Prod.mk.injEq, true_and] at hk
        exact .inr ⟨rfl, hk.symm⟩
    rcases key m e1 with ⟨a3, a4⟩ | ⟨a1, a2⟩
    · rcases key n e2 with ⟨b3, b4⟩ | ⟨b1, b2⟩
      · exact h.dis m n a a3 b3
      · exact absurd b2 a4
    · rcases key n e2 with ⟨b3, b4⟩ | ⟨b1, b2⟩
      · exact absurd a2 b4
      · rw [a1, b1]
  obj := fun n z hz => by
    have hl : n < (eh ++ [o]).length := (List.getElem?_eq_some_iff.mp hz).1
    simp only [List.length_append, List.length_singleton] at hl
    by_cases hk2 : n < eh.length
    · rw [List.getElem?_append_left hk2] at hz
      obtain ⟨a, ha, hO⟩ := h.obj n z hz
      have e : Ext0 G.K ρ (ρ ++ [(true, p)]) H H := ⟨⟨[(true, p)], rfl⟩, fun _ _ q => q, fun _ _ _ q => q⟩
      exact ⟨a, e.at ha, hO.keep e fun _ => rfl⟩
    · have : n = eh.length := by omega
      subst this
      rw [List.getElem?_append_right (Nat.le_refl _), Nat.sub_self] at hz
      simp only [List.getElem?_cons_zero, Option.some.injEq] at hz
      subst hz
      refine ⟨p, ?_, ho⟩
      rw [List.getElem?_append_right (by rw [h.len]; exact Nat.le_refl _), h.len, Nat.sub_self, hm]
      rfl
theorem HR.alloc {G : Gx} {ρ : Rho} {H : Hp} {eh : EH} (h : HR G ρ H eh) {p : Addr} {u : HO} {o : EO} (hp : H p = none) (hm : o.mu = true) (ho : OR G (ρ ++ [(true, p)]) (upd H p u) o p) : HR G (ρ ++ [(true, p)]) (upd H p u) (eh ++ [o]) :=
  (h.side u hp).push (h.fresh hp) hm ho
theorem HR.write {G : Gx} {ρ : Rho} {H : Hp} {eh : EH} (h : HR G ρ H eh) {n : Nat} {p : Addr} {o' : EO} {u : HO} (hn : ρ[n]? = some (true, p)) (hm : o'.mu = true) (e : Ext G.K ρ ρ H (upd H p u))
    (ho : OR G ρ (upd H p u) o' p) : HR G ρ (upd H p u) (eh.set n o') where
  len := by simp [h.len]
  dis := h.dis
  obj := fun j z hz => by
    by_cases hj : n = j
    · subst hj
      have hl : n < eh.length := by
        have := (List.getElem?_eq_some_iff.mp hz).1
        simpa using this
      rw [List.getElem?_set_self hl] at hz
      cases hz
      exact ⟨p, by rw [hm]; exact hn, ho⟩
    · rw [List.getElem?_set_ne hj] at hz
      obtain ⟨a, ha, hO⟩ := h.obj j z hz
      refine ⟨a, ha, hO.keep e.toExt0 fun hmz => upd_ne fun ea => hj ?_⟩
      subst ea
      rw [hmz] at ha
      exact h.dis n j a hn ha
def SR (K : Fg) (ρ : Rho) (H : Hp) (es : ES) (σ : L2.St) : Prop := σ.length = es.length ∧ ∀ (i : Nat) (v : EV), es[i]? = some (some v) → ∃ u, σ[i]? = some (some u) ∧ VR K ρ H v u
structure Rel (G : Gx) (ρ : Rho) (σ : L2.St) (H : Hp) (es : ES) (eh : EH) : Prop where
  sl : SR G.K ρ H es σ
  hr : HR G ρ H eh
theorem SR.mono {K : Fg} {ρ ρ' : Rho} {H H' : Hp} {es : ES} {σ : L2.St} (e : Ext K ρ ρ' H H') (h : SR K ρ H es σ) : SR K ρ' H' es σ :=
  ⟨h.1, fun i v hv => by
    obtain ⟨u, h1, h2⟩ := h.2 i v hv
    exact ⟨u, h1, VR.mono e _ _ h2⟩⟩
theorem SR.set {K : Fg} {ρ : Rho} {H : Hp} {es : ES} {σ : L2.St} {v : EV} {u : V} (h : SR K ρ H es σ) (i : Nat) (hv : VR K ρ H v u) : SR K ρ H (es.set i (some v)) (σ.set i (some u)) := by
  refine ⟨by simp [h.1], fun j w hw => ?_⟩
  by_cases hj : i = j
  · subst hj
    have hi : i < es.length := by
      have := (List.getElem?_eq_some_iff.mp hw).1
      simpa using this
    rw [List.getElem?_set_self hi] at hw
    cases hw
    exact ⟨u, List.getElem?_set_self (by rw [h.1]; exact hi), hv⟩
  · rw [List.getElem?_set_ne hj] at hw ⊢
    exact h.2 j w hw
theorem SR.unset {K : Fg} {ρ : Rho} {H : Hp} {es : ES} {σ : L2.St} (h : SR K ρ H es σ) (i : Nat) : SR K ρ H (es.set i none) (σ.set i none) := by
  refine ⟨by simp [h.1], fun j w hw => ?_⟩
  by_cases hj : i = j
  · subst hj
    have hi : i < es.length := by
      have := (List.getElem?_eq_some_iff.mp hw).1
      simpa using this
    rw [List.getElem?_set_self hi] at hw
    cases hw
  · rw [List.getElem?_set_ne hj] at hw ⊢
    exact h.2 j w hw
def wip (es : ES) : List Nat → ES
  | [] => es
  | v :: vs => (wip es vs).set v none
theorem SR.wip {K : Fg} {ρ : Rho} {H : Hp} {es : ES} {σ : L2.St} (h : SR K ρ H es σ) : ∀ vs : List Nat, SR K ρ H (EE.wip es vs) (L2.wipe σ vs)
  | [] => h
  | v :: vs => (SR.wip h vs).unset v
theorem Rel.ext {G : Gx} {ρ ρ' : Rho} {σ : L2.St} {H H' : Hp} {es : ES} {eh eh' : EH} (r : Rel G ρ σ H es eh) (e : Ext G.K ρ ρ' H H') (h : HR G ρ' H' eh') : Rel G ρ' σ H' es eh' := ⟨r.sl.mono e, h⟩
end EE
set_option Elab.async false
set_option linter.all false
set_option maxRecDepth 100000
set_option maxHeartbeats 1000000
namespace EE
open PySem PySem.Spec PyProof.Rows L2
structure Exn where
  c : Nat
  fs : List EV
  deriving Inhabited
inductive Res (α : Type) where
  | ok (v : α) (h : EH) | er (x : Exn) (h : EH) | no
def Res.bind {α β : Type} (r : Res α) (k : α → EH → Res β) : Res β := match r with
  | .ok v h => k v h
  | .er x h => .er x h
  | .no => .no
@[simp] theorem bind_ok {α β : Type} (v : α) (h : EH) (k : α → EH → Res β) : (Res.ok v h).bind k = k v h := rfl
@[simp] theorem bind_er {α β : Type} (x : Exn) (h : EH) (k : α → EH → Res β) : (Res.er x h).bind k = .er x h := rfl
@[simp] theorem bind_no {α β : Type} (k : α → EH → Res β) : (Res.no).bind k = .no := rfl
inductive Flw where
  | nx (es : ES) | rt (v : EV) | bk (es : ES) | ct (es : ES)
inductive VF where
  | nx (σ : L2.St) | rt (v : V) | bk (σ : L2.St) | ct (σ : L2.St)
abbrev DE := ES → EH → Res EV
abbrev DT := ES → EH → Res Bool
abbrev DA := ES → EH → Res (List EV)
abbrev DS := ES → EH → Res Flw
abbrev D2 := EV → EV → EH → Res EV
abbrev D1 := EV → EH → Res EV
abbrev DL := List EV → EH → Res EV
def XR (G : Gx) (ρ : Rho) (H : Hp) (x : Exn) (c : Value) (own : Option Addr) : Prop :=
  c = .ref (G.ct x.c).1 ∧ match x.fs with
    | [] => own = none
    | y :: r => ∃ d vs, own = some d ∧ H d = some (.xd ((G.ct x.c).2.zip vs)) ∧ VRs G.K ρ H (y :: r) vs ∧ (G.ct x.c).2.length = (y :: r).length
def wr {α β : Type} (G : Gx) (R : Rho → Hp → α → β → Prop) (ρ : Rho) (H : Hp) (r : Res α) (Q : β → Hp → Prop) (E : XK) : Prop := match r with
  | .ok v h => ∀ ρ' H' u, Ext G.K ρ ρ' H H' → HR G ρ' H' h → R ρ' H' v u → Q u H'
  | .er x h => ∀ ρ' H' c own, Ext G.K ρ ρ' H H' → HR G ρ' H' h → XR G ρ' H' x c own → E c own H'
  | .no => False
theorem wr.mono {α β : Type} {G : Gx} {R : Rho → Hp → α → β → Prop} {ρ ρ1 : Rho} {H H1 : Hp} {r : Res α} {Q : β → Hp → Prop} {E : XK} (e : Ext G.K ρ ρ1 H H1) (h : wr G R ρ H r Q E) : wr G R ρ1 H1 r Q E := by
  cases r with
  | ok v h' => exact fun ρ' H' u e' hr q => h ρ' H' u (e.trans e') hr q
  | er x h' => exact fun ρ' H' c own e' hr q => h ρ' H' c own (e.trans e') hr q
  | no => exact h
def Sound {α β : Type} (G : Gx) (E : XK) (R : Rho → Hp → α → β → Prop) (t : L2.St → Hp → (β → Hp → Prop) → Prop) (d : ES → EH → Res α) : Prop :=
  ∀ ρ σ H es eh Q, Rel G ρ σ H es eh → wr G R ρ H (d es eh) Q E → t σ H Q
theorem Sound.bind {α β : Type} {G : Gx} {E : XK} {R : Rho → Hp → α → β → Prop} {t : L2.St → Hp → (β → Hp → Prop) → Prop} {d : ES → EH → Res α} (h : Sound G E R t d) {ρ : Rho} {σ : L2.St} {H : Hp} {es : ES} {eh : EH} (rel : Rel G ρ σ H es eh)
    {γ δ : Type} {R2 : Rho → Hp → γ → δ → Prop} {k : α → EH → Res γ} {Q2 : δ → Hp → Prop} (hw : wr G R2 ρ H ((d es eh).bind k) Q2 E) {Kt : β → Hp → Prop}
    (hk : ∀ ρ1 H1 v eh1 u, Ext G.K ρ ρ1 H H1 → Rel G ρ1 σ H1 es eh1 → R ρ1 H1 v u → wr G R2 ρ1 H1 (k v eh1) Q2 E → Kt u H1) : t σ H Kt := by
  refine h ρ σ H es eh Kt rel ?_
  cases q : d es eh with
  | ok v h' =>
    rw [q] at hw
    exact fun ρ' H' u e hr r => hk ρ' H' v h' u e (rel.ext e hr) r (hw.mono e)
  | er x h' =>
    rw [q] at hw
    exact hw
  | no =>
    rw [q] at hw
    exact hw
theorem Sound.bind0 {α β : Type} {G : Gx} {E : XK} {R : Rho → Hp → α → β → Prop} {t : L2.St → Hp → (β → Hp → Prop) → Prop} {d : ES → EH → Res α} (h : Sound G E R t d) {ρ0 ρ : Rho} {σ : L2.St} {H0 H : Hp} {es : ES} {eh : EH} (rel : Rel G ρ σ H es eh) (e0 : Ext G.K ρ0 ρ H0 H)
    {γ δ : Type} {R2 : Rho → Hp → γ → δ → Prop} {k : α → EH → Res γ} {Q2 : δ → Hp → Prop} (hw : wr G R2 ρ0 H0 ((d es eh).bind k) Q2 E) {Kt : β → Hp → Prop}
    (hk : ∀ ρ1 H1 v eh1 u, Ext G.K ρ ρ1 H H1 → Rel G ρ1 σ H1 es eh1 → R ρ1 H1 v u → wr G R2 ρ0 H0 (k v eh1) Q2 E → Kt u H1) : t σ H Kt := by
  refine h ρ σ H es eh Kt rel ?_
  cases q : d es eh with
  | ok v h' =>
    rw [q] at hw
    exact fun ρ' H' u e hr r => hk ρ' H' v h' u e (rel.ext e hr) r hw
  | er x h' =>
    rw [q] at hw
    exact fun ρ' H' c own e' hr q => hw ρ' H' c own (e0.trans e') hr q
  | no =>
    rw [q] at hw
    exact hw
abbrev RB : Rho → Hp → Bool → Bool → Prop := fun _ _ a b => a = b
abbrev SndE (G : Gx) (E : XK) (t : TE) (d : DE) : Prop := Sound G E (VR G.K) t d
abbrev SndT (G : Gx) (E : XK) (t : TT) (d : DT) : Prop := Sound G E RB t d
abbrev SndA (G : Gx) (E : XK) (t : TA) (d : DA) : Prop := Sound G E (VRs G.K) t d
def RF (G : Gx) (ρ : Rho) (H : Hp) : Flw → VF → Prop
  | .nx es, .nx σ => SR G.K ρ H es σ
  | .rt v, .rt u => VR G.K ρ H v u
  | .bk es, .bk σ => SR G.K ρ H es σ
  | .ct es, .ct σ => SR G.K ρ H es σ
  | _, _ => False
def qD (D : Ends) : VF → Hp → Prop
  | .nx σ, H => D.nx σ H
  | .rt v, H => D.rt v H
  | .bk σ, H => D.bk σ H
  | .ct σ, H => D.ct σ H
def SndS (G : Gx) (E : XK) (t : TS) (d : DS) : Prop := ∀ ρ σ H es eh D, Rel G ρ σ H es eh → wr G (RF G) ρ H (d es eh) (qD D) E → t D σ H
def Snd2 (G : Gx) (E : XK) (r : R2) (f : D2) : Prop := ∀ ρ H eh x y a b Q, HR G ρ H eh → VR G.K ρ H x a → VR G.K ρ H y b → wr G (VR G.K) ρ H (f x y eh) Q E → r a b H Q
def Snd1 (G : Gx) (E : XK) (r : V → Hp → VK → Prop) (f : D1) : Prop := ∀ ρ H eh x a Q, HR G ρ H eh → VR G.K ρ H x a → wr G (VR G.K) ρ H (f x eh) Q E → r a H Q
def SndL (G : Gx) (E : XK) (r : List V → Hp → VK → Prop) (f : DL) : Prop := ∀ ρ H eh xs as Q, HR G ρ H eh → VRs G.K ρ H xs as → wr G (VR G.K) ρ H (f xs eh) Q E → r as H Q
def SndM (G : Gx) (E : XK) (r : V → List V → Hp → VK → Prop) (f : EV → DL) : Prop := ∀ ρ H eh x a xs as Q, HR G ρ H eh → VR G.K ρ H x a → VRs G.K ρ H xs as → wr G (VR G.K) ρ H (f x xs eh) Q E → r a as H Q
def Res.orElse {α : Type} (r : Res α) (k : Unit → Res α) : Res α := match r with
  | .no => k ()
  | z => z
def d2or (f g : D2) : D2 := fun x y h => (f x y h).orElse fun _ => g x y h
def dLor (f g : DL) : DL := fun x h => (f x h).orElse fun _ => g x h
def dMor (f g : EV → DL) : EV → DL := fun x xs h => (f x xs h).orElse fun _ => g x xs h
theorem wr_or {α β : Type} {G : Gx} {R : Rho → Hp → α → β → Prop} {ρ : Rho} {H : Hp} {r : Res α} {k : Unit → Res α} {Q : β → Hp → Prop} {E : XK} (h : wr G R ρ H (r.orElse k) Q E) : wr G R ρ H r Q E ∨ wr G R ρ H (k ()) Q E := by
  cases r with
  | ok v h' => exact .inl h
  | er x h' => exact .inl h
  | no => exact .inr h
section
variable (X : Cx) (ct : Nat → Addr × List Str) (E : XK)
abbrev Cx.g (X : Cx) (ct : Nat → Addr × List Str) : Gx := ⟨X.K, ct⟩
def PEd (e : Expr) (d : DE) : Prop := ∃ t, PE X e t ∧ SndE ⟨X.K, ct⟩ E t d
def PTd (e : Expr) (d : DT) : Prop := ∃ t, PT X e t ∧ SndT ⟨X.K, ct⟩ E t d
def PWd (e : Expr) (d : DT) : Prop := ∃ t, PW X e t ∧ SndT ⟨X.K, ct⟩ E t d
def PAd (es : List Expr) (d : DA) : Prop := ∃ t, PA X es t ∧ SndA ⟨X.K, ct⟩ E t d
def PSd (s : Stmt) (d : DS) : Prop := ∃ t, PS X s t ∧ SndS ⟨X.K, ct⟩ E t d
def PSsd (s : List Stmt) (d : DS) : Prop := ∃ t, PSs X s t ∧ SndS ⟨X.K, ct⟩ E t d
def Opd (f : Value → Value → Sem Value) (d : D2) : Prop := ∃ r, OpR X f r ∧ Snd2 ⟨X.K, ct⟩ E r d
def Ixd (d : D2) : Prop := ∃ r, IxR X r ∧ Snd2 ⟨X.K, ct⟩ E r d
def Und (f : Value → Sem Value) (d : D1) : Prop := ∃ r, UnR X f r ∧ Snd1 ⟨X.K, ct⟩ E r d
def Cld (f : Value) (d : DL) : Prop := ∃ r, CallR X f r ∧ SndL ⟨X.K, ct⟩ E r d
def Mtd (id : String) (d : EV → DL) : Prop := ∃ r, MtR X id r ∧ SndM ⟨X.K, ct⟩ E r d
end
def dVar (i : Nat) : DE := fun es h => match es[i]? with
  | some (some v) => .ok v h
  | _ => .no
def dC (v : EV) : DE := fun _ h => .ok v h
def dOp (f : D2) (a b : DE) : DE := fun es h => (a es h).bind fun x h1 => (b es h1).bind fun y h2 => f x y h2
def dUn (f : D1) (a : DE) : DE := fun es h => (a es h).bind fun x h1 => f x h1
def dNil : DA := fun _ h => .ok [] h
def dCons (a : DE) (r : DA) : DA := fun es h => (a es h).bind fun x h1 => (r es h1).bind fun xs h2 => .ok (x :: xs) h2
def dCB (f : DL) (a : DA) : DE := fun es h => (a es h).bind fun xs h1 => f xs h1
def dTup (a : DA) : DE := fun es h => (a es h).bind fun xs h1 => if xs.length ≤ 100000 then .ok (.tup xs) h1 else .no
def dLst (a : DA) : DE := fun es h => (a es h).bind fun xs h1 => if xs.length ≤ 100000 then .ok (.ref h1.length) (h1 ++ [.lst xs]) else .no
def dB (a : DE) : DT := fun es h => (a es h).bind fun x h1 => match x with
  | .bl b => .ok b h1
  | _ => .no
def dAnd (a b : DT) : DT := fun es h => (a es h).bind fun c h1 => if c = true then b es h1 else .ok false h1
def dOr (a b : DT) : DT := fun es h => (a es h).bind fun c h1 => if c = true then .ok true h1 else b es h1
def dNot (a : DT) : DT := fun es h => (a es h).bind fun c h1 => .ok (!c) h1
def dAndV (a b : DE) : DE := fun es h => (a es h).bind fun x h1 => match x with
  | .bl c => if c = true then b es h1 else .ok (.bl false) h1
  | _ => .no
def dOrV (a b : DE) : DE := fun es h => (a es h).bind fun x h1 => match x with
  | .bl c => if c = true then .ok (.bl true) h1 else b es h1
  | _ => .no
def dNotV (a : DE) : DE := fun es h => (a es h).bind fun x h1 => match x with
  | .bl c => .ok (.bl (!c)) h1
  | _ => .no
def dIf (t : DT) (a b : DE) : DE := fun es h => (t es h).bind fun c h1 => if c = true then a es h1 else b es h1
section
variable {X : Cx} {ct : Nat → Addr × List Str} {E : XK} {G : Gx}
theorem sz5 {n : Nat} (h : n ≤ 100000) : n ≤ sizeLine := Nat.le_trans h (by decide)
theorem snd_var {i : Nat} : SndE G E (tVar i) (dVar i) := fun ρ σ H es eh Q rel h => by
  unfold dVar at h
  split at h
  · rename_i v hv
    obtain ⟨u, h1, h2⟩ := rel.sl.2 i v hv
    exact ⟨u, h1, h ρ H u (Ext.refl _ _ _) rel.hr h2⟩
  · exact h.elim
theorem snd_c {v : EV} {u : V} (hv : ∀ ρ H, VR G.K ρ H v u) : SndE G E (tC u) (dC v) := fun ρ σ H es eh Q rel h => h ρ H u (Ext.refl _ _ _) rel.hr (hv ρ H)
theorem snd_op {r : R2} {f : D2} {ta tb : TE} {a b : DE} (hr : Snd2 G E r f) (ha : SndE G E ta a) (hb : SndE G E tb b) : SndE G E (tOp r ta tb) (dOp f a b) := fun ρ σ H es eh Q rel h => by
  refine ha.bind rel h fun ρ1 H1 x eh1 u e1 rel1 v1 h1 => ?_
  refine hb.bind rel1 h1 fun ρ2 H2 y eh2 w e2 rel2 v2 h2 => ?_
  exact hr ρ2 H2 eh2 x y u w Q rel2.hr (v1.mono e2) v2 h2
theorem snd_un {r : V → Hp → VK → Prop} {f : D1} {ta : TE} {a : DE} (hr : Snd1 G E r f) (ha : SndE G E ta a) : SndE G E (tUn r ta) (dUn f a) := fun ρ σ H es eh Q rel h => by
  refine ha.bind rel h fun ρ1 H1 x eh1 u e1 rel1 v1 h1 => ?_
  exact hr ρ1 H1 eh1 x u Q rel1.hr v1 h1
theorem snd_nil : SndA G E tNil dNil := fun ρ σ H es eh Q rel h => h ρ H [] (Ext.refl _ _ _) rel.hr (vrs_nil.mpr rfl)
theorem snd_cons {ta : TE} {tr : TA} {a : DE} {r : DA} (ha : SndE G E ta a) (hr : SndA G E tr r) : SndA G E (tCons ta tr) (dCons a r) := fun ρ σ H es eh Q rel h => by
  refine ha.bind rel h fun ρ1 H1 x eh1 u e1 rel1 v1 h1 => ?_
  refine hr.bind rel1 h1 fun ρ2 H2 xs eh2 us e2 rel2 v2 h2 => ?_
  exact h2 ρ2 H2 (u :: us) (Ext.refl _ _ _) rel2.hr (vrs_cons.mpr ⟨u, us, rfl, v1.mono e2, v2⟩)
theorem snd_cb {r : List V → Hp → VK → Prop} {f : DL} {ta : TA} {a : DA} (hr : SndL G E r f) (ha : SndA G E ta a) : SndE G E (tCB r ta) (dCB f a) := fun ρ σ H es eh Q rel h => by
  refine ha.bind rel h fun ρ1 H1 x eh1 u e1 rel1 v1 h1 => ?_
  exact hr ρ1 H1 eh1 x u Q rel1.hr v1 h1
theorem snd_tup {ta : TA} {a : DA} (ha : SndA G E ta a) : SndE G E (tTup ta) (dTup a) := fun ρ σ H es eh Q rel h => by
  refine ha.bind rel h fun ρ1 H1 xs eh1 us e1 rel1 v1 h1 => ?_
  split at h1
  · rename_i hl
    refine ⟨by rw [← v1.length]; exact sz5 hl, fun p hp => ?_⟩
    exact h1 ρ1 _ _ (Ext.side _ hp) (rel1.hr.side _ hp) (vr_tup.mpr ⟨p, us, rfl, upd_same, VRs.mono (Ext.side _ hp) _ _ v1⟩)
  · exact h1.elim
theorem last_get {ρ : Rho} {p : Addr} {n : Nat} (h : ρ.length = n) : adr (ρ ++ [(true, p)]) n = some p := by
  unfold adr
  subst h
  rw [List.getElem?_append_right (Nat.le_refl _), Nat.sub_self]
  rfl
theorem new_lst {ρ : Rho} {H : Hp} {eh : EH} {xs : List EV} {us : List V} {Q : VK} (hr : HR G ρ H eh) (v : VRs G.K ρ H xs us) (h : wr G (VR G.K) ρ H (.ok (.ref eh.length) (eh ++ [.lst xs])) Q E) : ∀ p, H p = none → Q (.ref p) (upd H p (.lst us)) := fun p hp => by
  refine h (ρ ++ [(true, p)]) _ _ (Ext.alloc _ hp) (hr.alloc hp rfl ⟨us, upd_same, VRs.mono (Ext.alloc _ hp) _ _ v⟩) (vr_ref.mpr ⟨p, last_get hr.len, rfl⟩)
theorem snd_lst {ta : TA} {a : DA} (ha : SndA G E ta a) : SndE G E (tLst ta) (dLst a) := fun ρ σ H es eh Q rel h => by
  refine ha.bind rel h fun ρ1 H1 xs eh1 us e1 rel1 v1 h1 => ?_
  split at h1
  · rename_i hl
    exact ⟨by rw [← v1.length]; exact sz5 hl, new_lst rel1.hr v1 h1⟩
  · exact h1.elim
theorem snd_B {ta : TE} {a : DE} (ha : SndE G E ta a) : SndT G E (tB ta) (dB a) := fun ρ σ H es eh Q rel h => by
  refine ha.bind rel h fun ρ1 H1 x eh1 u e1 rel1 v1 h1 => ?_
  cases x with
  | bl b => exact ⟨b, vr_bl.mp v1, h1 ρ1 H1 b (Ext.refl _ _ _) rel1.hr rfl⟩
  | _ => exact h1.elim
theorem snd_and {ta tb : TT} {a b : DT} (ha : SndT G E ta a) (hb : SndT G E tb b) : SndT G E (tAnd ta tb) (dAnd a b) := fun ρ σ H es eh Q rel h => by
  refine ha.bind rel h fun ρ1 H1 x eh1 u e1 rel1 v1 h1 => ?_
  subst v1
  cases x with
  | true => exact iteT (hb ρ1 σ H1 es eh1 Q rel1 h1)
  | false => exact iteF (h1 ρ1 H1 false (Ext.refl _ _ _) rel1.hr rfl)
theorem snd_or {ta tb : TT} {a b : DT} (ha : SndT G E ta a) (hb : SndT G E tb b) : SndT G E (tOr ta tb) (dOr a b) := fun ρ σ H es eh Q rel h => by
  refine ha.bind rel h fun ρ1 H1 x eh1 u e1 rel1 v1 h1 => ?_
  subst v1
  cases x with
  | true => exact iteT (h1 ρ1 H1 true (Ext.refl _ _ _) rel1.hr rfl)
  | false => exact iteF (hb ρ1 σ H1 es eh1 Q rel1 h1)
theorem snd_not {ta : TT} {a : DT} (ha : SndT G E ta a) : SndT G E (tNot ta) (dNot a) := fun ρ σ H es eh Q rel h => by
  refine ha.bind rel h fun ρ1 H1 x eh1 u e1 rel1 v1 h1 => ?_
  subst v1
  exact h1 ρ1 H1 _ (Ext.refl _ _ _) rel1.hr rfl
theorem snd_andV {ta tb : TE} {a b : DE} (ha : SndE G E ta a) (hb : SndE G E tb b) : SndE G E (tAndV ta tb) (dAndV a b) := fun ρ σ H es eh Q rel h => by
  refine ha.bind rel h fun ρ1 H1 x eh1 u e1 rel1 v1 h1 => ?_
  cases x with
  | bl c =>
    refine ⟨c, vr_bl.mp v1, ?_⟩
    cases c with
    | true => exact iteT (hb ρ1 σ H1 es eh1 Q rel1 h1)
    | false => exact iteF (h1 ρ1 H1 _ (Ext.refl _ _ _) rel1.hr (vr_bl.mpr rfl))
  | _ => exact h1.elim
theorem snd_orV {ta tb : TE} {a b : DE} (ha : SndE G E ta a) (hb : SndE G E tb b) : SndE G E (tOrV ta tb) (dOrV a b) := fun ρ σ H es eh Q rel h => by
  refine ha.bind rel h fun ρ1 H1 x eh1 u e1 rel1 v1 h1 => ?_
  cases x with
  | bl c =>
    refine ⟨c, vr_bl.mp v1, ?_⟩
    cases c with
    | true => exact iteT (h1 ρ1 H1 _ (Ext.refl _ _ _) rel1.hr (vr_bl.mpr rfl))
    | false => exact iteF (hb ρ1 σ H1 es eh1 Q rel1 h1)
  | _ => exact h1.elim
theorem snd_notV {ta : TE} {a : DE} (ha : SndE G E ta a) : SndE G E (tNotV ta) (dNotV a) := fun ρ σ H es eh Q rel h => by
  refine ha.bind rel h fun ρ1 H1 x eh1 u e1 rel1 v1 h1 => ?_
  cases x with
  | bl c => exact ⟨c, vr_bl.mp v1, h1 ρ1 H1 _ (Ext.refl _ _ _) rel1.hr (vr_bl.mpr rfl)⟩
  | _ => exact h1.elim
theorem snd_if {tt : TT} {ta tb : TE} {t : DT} {a b : DE} (ht : SndT G E tt t) (ha : SndE G E ta a) (hb : SndE G E tb b) : SndE G E (tIf tt ta tb) (dIf t a b) := fun ρ σ H es eh Q rel h => by
  refine ht.bind rel h fun ρ1 H1 x eh1 u e1 rel1 v1 h1 => ?_
  subst v1
  cases x with
  | true => exact iteT (ha ρ1 σ H1 es eh1 Q rel1 h1)
  | false => exact iteF (hb ρ1 σ H1 es eh1 Q rel1 h1)
theorem xe_var (i : Nat) {x : Str} {pos : Pos} (hN : X.N[i]? = some x := by rfl) (hv : Vis X.env.scope x := by first | exact Or.inl rfl | exact Or.inr (Or.inl rfl) | exact Or.inr (Or.inr rfl)) (hd : (x == ("__debug__" : Str)) = false := by decide)
    (hcd : (x == ("__classdict__" : Str)) = false := by decide) : PEd X ct E (.Name x pos) (dVar i) := ⟨_, pe_var hN hv hd hcd, snd_var⟩
theorem xe_int {i j pos} : PEd X ct E (.Constant (.int i) j pos) (dC (.int i)) := ⟨_, pe_int, snd_c fun _ _ => vr_int.mpr rfl⟩
theorem xe_bl {b j pos} : PEd X ct E (.Constant (.bool b) j pos) (dC (.bl b)) := ⟨_, pe_bl, snd_c fun _ _ => vr_bl.mpr rfl⟩
theorem xe_non {j pos} : PEd X ct E (.Constant .none j pos) (dC .non) := ⟨_, pe_non, snd_c fun _ _ => vr_non.mpr rfl⟩
theorem xe_str {x j pos} : PEd X ct E (.Constant (.str x) j pos) (dC (.str x)) := ⟨_, pe_str, snd_c fun _ _ => vr_str.mpr rfl⟩
theorem xe_globI {x : Str} {pos : Pos} {i : Int} (hg : Gl X x) (hm : ∃ t, X.mg x = some (.int i t)) (hd : (x == ("__debug__" : Str)) = false := by decide) : PEd X ct E (.Name x pos) (dC (.int i)) := by
  obtain ⟨t, hm⟩ := hm
  exact ⟨_, pe_glob (v := .int i) hg hm ⟨t, rfl⟩ hd, snd_c fun _ _ => vr_int.mpr rfl⟩
theorem xe_globS {x : Str} {pos : Pos} {i : Str} (hg : Gl X x) (hm : ∃ t, X.mg x = some (.str i t)) (hd : (x == ("__debug__" : Str)) = false := by decide) : PEd X ct E (.Name x pos) (dC (.str i)) := by
  obtain ⟨t, hm⟩ := hm
  exact ⟨_, pe_glob (v := .str i) hg hm ⟨t, rfl⟩ hd, snd_c fun _ _ => vr_str.mpr rfl⟩
variable {a b c : Expr} {es rest : List Expr} {pos : Pos} {da db dc : DE} {dt du : DT} {dr : DA}
theorem xe_op {op : Operator} {f : D2} (ho : Opd X ct E (binaryOp op) f) (ha : PEd X ct E a da) (hb : PEd X ct E b db) : PEd X ct E (.BinOp a op b pos) (dOp f da db) := by
  obtain ⟨r, h1, h2⟩ := ho
  obtain ⟨ta, a1, a2⟩ := ha
  obtain ⟨tb, b1, b2⟩ := hb
  exact ⟨_, pe_op h1 a1 b1, snd_op h2 a2 b2⟩
theorem xe_un {op : UnaryOp} {f : D1} (ho : Und X ct E (unaryOp op) f) (ha : PEd X ct E a da) : PEd X ct E (.UnaryOp op a pos) (dUn f da) := by
  obtain ⟨r, h1, h2⟩ := ho
  obtain ⟨ta, a1, a2⟩ := ha
  exact ⟨_, pe_un h1 a1, snd_un h2 a2⟩
theorem xe_ix {f : D2} (ho : Ixd X ct E f) (ha : PEd X ct E a da) (hb : PEd X ct E b db) (hs : PlainIx b := by exact fun _ _ => rfl) : PEd X ct E (.Subscript a b pos) (dOp f da db) := by
  obtain ⟨r, h1, h2⟩ := ho
  obtain ⟨ta, a1, a2⟩ := ha
  obtain ⟨tb, b1, b2⟩ := hb
  exact ⟨_, pe_ix h1 a1 b1 hs, snd_op h2 a2 b2⟩
theorem xa_nil : PAd X ct E [] dNil := ⟨_, pa_nil, snd_nil⟩
theorem xe_tup {x1} (h : PAd X ct E es dr) : PEd X ct E (.Tuple es x1 pos) (dTup dr) := by
  obtain ⟨t, h1, h2⟩ := h
  exact ⟨_, pe_tup h1, snd_tup h2⟩
theorem xe_lst (h : PAd X ct E es dr) : PEd X ct E (.List es pos) (dLst dr) := by
  obtain ⟨t, h1, h2⟩ := h
  exact ⟨_, pe_lst h1, snd_lst h2⟩
theorem xt_val {e : Expr} {d : DE} (h : PEd X ct E e d) (he : ∀ whole, isTrue e X.env whole = (do let v ← whole; standAt e.pos; holding [v] (truthy v)) := by intro _; rfl) : PTd X ct E e (dB d) := by
  obtain ⟨t, h1, h2⟩ := h
  exact ⟨_, pt_val h1 he, snd_B h2⟩
theorem xw_and1 (h : PTd X ct E a dt) : PWd X ct E (.BoolOp .And [a] pos) dt := by
  obtain ⟨t, h1, h2⟩ := h
  exact ⟨_, pw_and1 h1, h2⟩
theorem xw_or1 (h : PTd X ct E a dt) : PWd X ct E (.BoolOp .Or [a] pos) dt := by
  obtain ⟨t, h1, h2⟩ := h
  exact ⟨_, pw_or1 h1, h2⟩
theorem xw_and (h : PTd X ct E a dt) (g : PWd X ct E (.BoolOp .And (b :: rest) pos) du) : PWd X ct E (.BoolOp .And (a :: b :: rest) pos) (dAnd dt du) := by
  obtain ⟨t, h1, h2⟩ := h
  obtain ⟨u, g1, g2⟩ := g
  exact ⟨_, pw_and h1 g1, snd_and h2 g2⟩
theorem xw_or (h : PTd X ct E a dt) (g : PWd X ct E (.BoolOp .Or (b :: rest) pos) du) : PWd X ct E (.BoolOp .Or (a :: b :: rest) pos) (dOr dt du) := by
  obtain ⟨t, h1, h2⟩ := h
  obtain ⟨u, g1, g2⟩ := g
  exact ⟨_, pw_or h1 g1, snd_or h2 g2⟩
theorem xt_w (h : PWd X ct E a dt) : PTd X ct E a dt := by
  obtain ⟨t, h1, h2⟩ := h
  exact ⟨_, h1.pt, h2⟩
theorem xt_not (h : PTd X ct E a dt) : PTd X ct E (.UnaryOp .Not a pos) (dNot dt) := by
  obtain ⟨t, h1, h2⟩ := h
  exact ⟨_, pt_not h1, snd_not h2⟩
theorem xe_one {op} (h : PEd X ct E a da) : PEd X ct E (.BoolOp op [a] pos) da := by
  obtain ⟨t, h1, h2⟩ := h
  exact ⟨_, pe_one h1, h2⟩
theorem xe_and (h : PEd X ct E a da) (g : PEd X ct E (.BoolOp .And (b :: rest) pos) db) : PEd X ct E (.BoolOp .And (a :: b :: rest) pos) (dAndV da db) := by
  obtain ⟨t, h1, h2⟩ := h
  obtain ⟨u, g1, g2⟩ := g
  exact ⟨_, pe_and h1 g1, snd_andV h2 g2⟩
theorem xe_or (h : PEd X ct E a da) (g : PEd X ct E (.BoolOp .Or (b :: rest) pos) db) : PEd X ct E (.BoolOp .Or (a :: b :: rest) pos) (dOrV da db) := by
  obtain ⟨t, h1, h2⟩ := h
  obtain ⟨u, g1, g2⟩ := g
  exact ⟨_, pe_or h1 g1, snd_orV h2 g2⟩
theorem xe_not (h : PEd X ct E a da) : PEd X ct E (.UnaryOp .Not a pos) (dNotV da) := by
  obtain ⟨t, h1, h2⟩ := h
  exact ⟨_, pe_not h1, snd_notV h2⟩
theorem xe_if (h : PTd X ct E c dt) (ha : PEd X ct E a da) (hb : PEd X ct E b db) : PEd X ct E (.IfExp c a b pos) (dIf dt da db) := by
  obtain ⟨t, h1, h2⟩ := h
  obtain ⟨ta, a1, a2⟩ := ha
  obtain ⟨tb, b1, b2⟩ := hb
  exact ⟨_, pe_ifExp h1 a1 b1, snd_if h2 a2 b2⟩
end
end EE
set_option Elab.async false
set_option linter.all false
set_option maxRecDepth 100000
set_option maxHeartbeats 1000000
namespace EE
open PySem PySem.Spec PyProof.Rows L2
def lstAt (h : EH) (n : Nat) : Option (List EV) := match h[n]? with
  | some (.lst xs) => some xs
  | some (.ro xs) => some xs
  | _ => none
def mutAt (h : EH) (n : Nat) : Option (List EV) := match h[n]? with
  | some (.lst xs) => some xs
  | _ => none
def dicAt (h : EH) (n : Nat) : Option (Bool × List (EV × EV)) := match h[n]? with
  | some (.dic t xs) => some (t, xs)
  | some (.lkd t xs) => some (t, xs)
  | _ => none
section
variable {G : Gx} {ρ : Rho} {H : Hp} {eh : EH} {n : Nat}
theorem lst_of (hr : HR G ρ H eh) {xs : List EV} (h : lstAt eh n = some xs) : ∃ a vs, adr ρ n = some a ∧ SqL G.K H a vs ∧ VRs G.K ρ H xs vs := by
  unfold lstAt at h
  split at h
  · rename_i ys e
    cases h
    obtain ⟨a, h1, vs, h2, h3⟩ := hr.obj n _ e
    exact ⟨a, vs, adr_of h1, SqL.of h2, h3⟩
  · rename_i ys e
    cases h
    obtain ⟨a, h1, vs, h2, h3⟩ := hr.obj n _ e
    exact ⟨a, vs, adr_of h1, h2.sq, h3⟩
  · cases h
theorem mut_of (hr : HR G ρ H eh) {xs : List EV} (h : mutAt eh n = some xs) : ∃ a vs, adr ρ n = some a ∧ H a = some (.lst vs) ∧ VRs G.K ρ H xs vs ∧ ρ[n]? = some (true, a) := by
  unfold mutAt at h
  split at h
  · rename_i ys e
    cases h
    obtain ⟨a, h1, vs, h2, h3⟩ := hr.obj n _ e
    exact ⟨a, vs, adr_of h1, h2, h3, h1⟩
  · cases h
end
def fInt (c : Int → Int → Bool) (g : Int → Int → EV) : D2 := fun x y h => match x, y with
  | .int i, .int j => if c i j = true then .ok (g i j) h else .no
  | _, _ => .no
def fAddI : D2 := fInt (fun _ _ => true) fun i j => .int (i + j)
def fSub : D2 := fInt (fun _ _ => true) fun i j => .int (i - j)
def fMulI : D2 := fInt (fun i j => (decide (-(2 ^ 64) < i) && decide (i < 2 ^ 64)) || (decide (-(2 ^ 64) < j) && decide (j < 2 ^ 64))) fun i j => .int (i * j)
def fMod : D2 := fInt (fun _ j => decide (0 < j)) fun i j => .int (i % j)
def fDiv : D2 := fInt (fun _ j => decide (0 < j) && decide (j < 2 ^ 64)) fun i j => .int (i / j)
def fPow : D2 := fInt (fun i j => decide (0 ≤ j) && decide (j ≤ 64) && decide (i.natAbs < 2 ^ 64)) fun i j => .int (i ^ j.toNat)
def fLt : D2 := fInt (fun _ _ => true) fun i j => .bl (decide (i < j))
def fLe : D2 := fInt (fun _ _ => true) fun i j => .bl (decide (i ≤ j))
def fGt : D2 := fInt (fun _ _ => true) fun i j => .bl (decide (j < i))
def fGe : D2 := fInt (fun _ _ => true) fun i j => .bl (decide (j ≤ i))
section
variable {X : Cx} {ct : Nat → Addr × List Str} {E : XK} {G : Gx}
theorem snd_I {c : Int → Int → Bool} {C : Int → Int → Prop} {g : Int → Int → EV} {gV : Int → Int → V} (hc : ∀ i j, c i j = true → C i j) (hg : ∀ ρ H i j, VR G.K ρ H (g i j) (gV i j)) : Snd2 G E (rI C gV) (fInt c g) := fun ρ H eh x y a b Q hr hx hy h => by
  unfold fInt at h
  split at h
  · rename_i i j
    split at h
    · rename_i hcc
      exact ⟨i, j, vr_int.mp hx, vr_int.mp hy, hc i j hcc, h ρ H _ (Ext.refl _ _ _) hr (hg _ _ _ _)⟩
    · exact h.elim
  · exact h.elim
theorem snd_I0 {c : Int → Int → Bool} {g : Int → Int → EV} {gV : Int → Int → V} (hg : ∀ ρ H i j, VR G.K ρ H (g i j) (gV i j)) : Snd2 G E (rI0 gV) (fInt c g) := fun ρ H eh x y a b Q hr hx hy h => by
  unfold fInt at h
  split at h
  · rename_i i j
    split at h
    · rename_i hcc
      exact ⟨i, j, vr_int.mp hx, vr_int.mp hy, h ρ H _ (Ext.refl _ _ _) hr (hg _ _ _ _)⟩
    · exact h.elim
  · exact h.elim
theorem OpR.or {f : Value → Value → Sem Value} {r r' : R2} (h : OpR X f r) (h' : OpR X f r') : OpR X f (fun x y H Q => r x y H Q ∨ r' x y H Q) := by
  intro pins s σ H x y v u Q I rx ry q
  rcases q with q | q
  · exact h pins s σ H x y v u Q I rx ry q
  · exact h' pins s σ H x y v u Q I rx ry q
theorem Opd.or {f : Value → Value → Sem Value} {d d' : D2} (h : Opd X ct E f d) (h' : Opd X ct E f d') : Opd X ct E f (d2or d d') := by
  obtain ⟨r, h1, h2⟩ := h
  obtain ⟨r', h1', h2'⟩ := h'
  refine ⟨_, OpR.or h1 h1', fun ρ H eh x y a b Q hr hx hy h => ?_⟩
  rcases wr_or h with h | h
  · exact .inl (h2 ρ H eh x y a b Q hr hx hy h)
  · exact .inr (h2' ρ H eh x y a b Q hr hx hy h)
theorem Ixd.or {d d' : D2} (h : Ixd X ct E d) (h' : Ixd X ct E d') : Ixd X ct E (d2or d d') := by
  obtain ⟨r, h1, h2⟩ := h
  obtain ⟨r', h1', h2'⟩ := h'
  refine ⟨_, h1.or h1', fun ρ H eh x y a b Q hr hx hy h => ?_⟩
  rcases wr_or h with h | h
  · exact .inl (h2 ρ H eh x y a b Q hr hx hy h)
  · exact .inr (h2' ρ H eh x y a b Q hr hx hy h)
theorem Cld.or {f : Value} {d d' : DL} (h : Cld X ct E f d) (h' : Cld X ct E f d') : Cld X ct E f (dLor d d') := by
  obtain ⟨r, h1, h2⟩ := h
  obtain ⟨r', h1', h2'⟩ := h'
  refine ⟨_, h1.or h1', fun ρ H eh xs as Q hr hx h => ?_⟩
  rcases wr_or h with h | h
  · exact .inl (h2 ρ H eh xs as Q hr hx h)
  · exact .inr (h2' ρ H eh xs as Q hr hx h)
theorem Mtd.or {id : String} {d d' : EV → DL} (h : Mtd X ct E id d) (h' : Mtd X ct E id d') : Mtd X ct E id (dMor d d') := by
  obtain ⟨r, h1, h2⟩ := h
  obtain ⟨r', h1', h2'⟩ := h'
  refine ⟨_, h1.or h1', fun ρ H eh x a xs as Q hr hx hxs h => ?_⟩
  rcases wr_or h with h | h
  · exact .inl (h2 ρ H eh x a xs as Q hr hx hxs h)
  · exact .inr (h2' ρ H eh x a xs as Q hr hx hxs h)
theorem pow64 : (2 : Int) ^ 64 = 18446744073709551616 := by decide
theorem o_addI : Opd X ct E (binaryOp .Add) fAddI := ⟨_, op_add, snd_I0 fun _ _ _ _ => vr_int.mpr rfl⟩
theorem o_sub : Opd X ct E (binaryOp .Sub) fSub := ⟨_, op_sub, snd_I0 fun _ _ _ _ => vr_int.mpr rfl⟩
theorem o_mulI : Opd X ct E (binaryOp .Mult) fMulI := ⟨_, op_mul, snd_I (fun i j h => by
  simp only [Bool.or_eq_true, Bool.and_eq_true, decide_eq_true_eq] at h
  exact h) fun _ _ _ _ => vr_int.mpr rfl⟩
theorem o_mod : Opd X ct E (binaryOp .Mod) fMod := ⟨_, op_mod, snd_I (fun i j h => of_decide_eq_true h) fun _ _ _ _ => vr_int.mpr rfl⟩
theorem o_div : Opd X ct E (binaryOp .FloorDiv) fDiv := ⟨_, op_fdivW, snd_I (fun i j h => by
  simp only [Bool.and_eq_true, decide_eq_true_eq] at h
  refine wide_div (b := 64) h.1 ?_ (by decide) (by decide)
  have := h.2
  rw [pow64] at this
  have e : (2 : Nat) ^ 64 = 18446744073709551616 := by decide
  rw [e]
  omega) fun _ _ _ _ => vr_int.mpr rfl⟩
theorem o_pow : Opd X ct E (binaryOp .Pow) fPow := ⟨_, op_pow, snd_I (fun i j h => by
  simp only [Bool.and_eq_true, decide_eq_true_eq] at h
  exact ⟨h.1.1, by omega, h.2⟩) fun _ _ _ _ => vr_int.mpr rfl⟩
theorem o_lt : Opd X ct E (compareOp .Lt) fLt := ⟨_, op_lt, snd_I0 fun _ _ _ _ => vr_bl.mpr rfl⟩
theorem o_le : Opd X ct E (compareOp .LtE) fLe := ⟨_, op_le, snd_I0 fun _ _ _ _ => vr_bl.mpr rfl⟩
theorem o_gt : Opd X ct E (compareOp .Gt) fGt := ⟨_, op_gt, snd_I0 fun _ _ _ _ => vr_bl.mpr rfl⟩
theorem o_ge : Opd X ct E (compareOp .GtE) fGe := ⟨_, op_ge, snd_I0 fun _ _ _ _ => vr_bl.mpr rfl⟩
def fNeg : D1 := fun x h => match x with
  | .int i => .ok (.int (-i)) h
  | _ => .no
theorem o_neg : Und X ct E (unaryOp .USub) fNeg := ⟨_, un_neg, fun ρ H eh x a Q hr hx h => by
  unfold fNeg at h
  split at h
  · rename_i i
    exact ⟨i, vr_int.mp hx, h ρ H _ (Ext.refl _ _ _) hr (vr_int.mpr rfl)⟩
  · exact h.elim⟩
def fCat : D2 := fun x y h => match x, y with
  | .ref m, .ref n => match mutAt h m, mutAt h n with
    | some xs, some ys => if xs.length + ys.length ≤ 100000 then .ok (.ref h.length) (h ++ [.lst (xs ++ ys)]) else .no
    | _, _ => .no
  | _, _ => .no
theorem o_cat : Opd X ct E (binaryOp .Add) fCat := ⟨_, op_cat, fun ρ H eh x y a b Q hr hx hy h => by
  unfold fCat at h
  split at h
  · rename_i m n
    split at h
    · rename_i xs ys e1 e2
      split at h
      · rename_i hl
        obtain ⟨a1, vs, g1, g2, g3, _⟩ := mut_of hr e1
        obtain ⟨a2, us, k1, k2, k3, _⟩ := mut_of hr e2
        obtain ⟨a', q1, rfl⟩ := vr_ref.mp hx
        obtain ⟨b', q2, rfl⟩ := vr_ref.mp hy
        rw [g1] at q1; cases q1
        rw [k1] at q2; cases q2
        refine ⟨a1, a2, vs, us, rfl, rfl, g2, k2, ?_, new_lst hr (g3.append k3) h⟩
        rw [← g3.length, ← k3.length]
        exact sz5 hl
      · exact h.elim
    · exact h.elim
  · exact h.elim⟩
def fRep : D2 := fun x y h => match x, y with
  | .ref m, .int k => match mutAt h m with
    | some xs => if decide (0 ≤ k) && decide (k ≤ 1000) && decide (xs.length ≤ 10) = true then .ok (.ref h.length) (h ++ [.lst (List.replicate k.toNat xs).flatten]) else .no
    | _ => .no
  | _, _ => .no
theorem VRs.rep {K : Fg} {ρ : Rho} {H : Hp} {xs : List EV} {vs : List V} (h : VRs K ρ H xs vs) : ∀ n : Nat, VRs K ρ H (List.replicate n xs).flatten (List.replicate n vs).flatten
  | 0 => vrs_nil.mpr rfl
  | n + 1 => by
    rw [List.replicate_succ, List.replicate_succ, List.flatten_cons, List.flatten_cons]
    exact h.append (VRs.rep h n)
theorem o_rep : Opd X ct E (binaryOp .Mult) fRep := ⟨_, op_rep, fun ρ H eh x y a b Q hr hx hy h => by
  unfold fRep at h
  split at h
  · rename_i m k
    split at h
    · rename_i xs e1
      split at h
      · rename_i hl
        simp only [Bool.and_eq_true, decide_eq_true_eq] at hl
        obtain ⟨⟨l1, l2⟩, l3⟩ := hl
        obtain ⟨a1, vs, g1, g2, g3, _⟩ := mut_of hr e1
        obtain ⟨a', q1, rfl⟩ := vr_ref.mp hx
        rw [g1] at q1; cases q1
        refine ⟨a1, k, vs, rfl, vr_int.mp hy, g2, by omega, by omega, ?_, new_lst hr (g3.rep _) h⟩
        rw [← g3.length]
        have h1 : k.toNat ≤ 1000 := by omega
        exact sz5 (Nat.le_trans (Nat.mul_le_mul l3 h1) (by decide))
      · exact h.elim
    · exact h.elim
  · exact h.elim⟩
def fIxL : D2 := fun x y h => match x, y with
  | .ref m, .int i => match lstAt h m with
    | some xs => match atI xs i with
      | some v => .ok v h
      | none => .no
    | none => .no
  | _, _ => .no
theorem atI_vr {K : Fg} {ρ : Rho} {H : Hp} {xs : List EV} {vs : List V} (h : VRs K ρ H xs vs) {i : Int} {x : EV} (e : atI xs i = some x) : ∃ v, atI vs i = some v ∧ VR K ρ H x v := by
  unfold atI at e ⊢
  rw [← h.length]
  cases q : ixN xs.length i with
  | none => rw [q] at e; cases e
  | some j =>
    rw [q] at e
    exact h.get e
theorem i_lst : Ixd X ct E fIxL := ⟨_, ix_list, fun ρ H eh x y a b Q hr hx hy h => by
  unfold fIxL at h
  split at h
  · rename_i m i
    split at h
    · rename_i xs e1
      split at h
      · rename_i v e2
        obtain ⟨a1, vs, g1, g2, g3⟩ := lst_of hr e1
        obtain ⟨a', q1, rfl⟩ := vr_ref.mp hx
        rw [g1] at q1; cases q1
        obtain ⟨w, w1, w2⟩ := atI_vr g3 e2
        exact ⟨a1, vs, i, w, rfl, vr_int.mp hy, g2, w1, h ρ H _ (Ext.refl _ _ _) hr w2⟩
      · exact h.elim
    · exact h.elim
  · exact h.elim⟩
def fIxT : D2 := fun x y h => match x, y with
  | .tup xs, .int i => match atI xs i with
    | some v => .ok v h
    | none => .no
  | _, _ => .no
theorem i_tup : Ixd X ct E fIxT := ⟨_, ix_tup, fun ρ H eh x y a b Q hr hx hy h => by
  unfold fIxT at h
  split at h
  · rename_i xs i
    split at h
    · rename_i v e2
      obtain ⟨a1, vs, rfl, g2, g3⟩ := vr_tup.mp hx
      obtain ⟨w, w1, w2⟩ := atI_vr g3 e2
      exact ⟨a1, vs, i, w, rfl, vr_int.mp hy, SqT.of g2, w1, h ρ H _ (Ext.refl _ _ _) hr w2⟩
    · exact h.elim
  · exact h.elim⟩
abbrev fIx : D2 := d2or fIxL fIxT
theorem i_ix : Ixd X ct E fIx := i_lst.or i_tup
def cutE (xs : List EV) (lo hi : Option Int) : List EV := (xs.drop (HT.sIx xs.length 0 lo)).take (HT.sIx xs.length xs.length hi - HT.sIx xs.length 0 lo)
def fSl : EV → Option Int → Option Int → EH → Res EV := fun x lo hi h => match x with
  | .ref m => match lstAt h m with
    | some xs => .ok (.ref h.length) (h ++ [.lst (cutE xs lo hi)])
    | none => .no
  | _ => .no
def dPart (e : Option DE) : ES → EH → Res (Option Int) := fun es h => match e with
  | none => .ok none h
  | some d => (d es h).bind fun x h1 => match x with
    | .int i => .ok (some i) h1
    | _ => .no
def dSl (f : EV → Option Int → Option Int → EH → Res EV) (a : DE) (lo hi : ES → EH → Res (Option Int)) : DE := fun es h => (a es h).bind fun x h1 => (lo es h1).bind fun l h2 => (hi es h2).bind fun u h3 => f x l u h3
abbrev RO : Rho → Hp → Option Int → Option Int → Prop := fun _ _ a b => a = b
def POd (X : Cx) (ct : Nat → Addr × List Str) (E : XK) (e : Option Expr) (d : ES → EH → Res (Option Int)) : Prop := ∃ t, PO X e t ∧ Sound ⟨X.K, ct⟩ E RO t d
theorem xo_none : POd X ct E none (dPart none) := ⟨_, po_none, fun ρ σ H es eh Q rel h => h ρ H none (Ext.refl _ _ _) rel.hr rfl⟩
theorem xo_some {e : Expr} {d : DE} (h : PEd X ct E e d) : POd X ct E (some e) (dPart (some d)) := by
  obtain ⟨t, h1, h2⟩ := h
  refine ⟨_, po_some h1, fun ρ σ H es eh Q rel h => ?_⟩
  refine h2.bind rel h fun ρ1 H1 x eh1 u e1 rel1 v1 h1 => ?_
  cases x with
  | int i => exact ⟨i, vr_int.mp v1, h1 ρ1 H1 _ (Ext.refl _ _ _) rel1.hr rfl⟩
  | _ => exact h1.elim
theorem xe_slice {a : Expr} {lo hi : Option Expr} {p2 pos : Pos} {da : DE} {dl dh : ES → EH → Res (Option Int)} (ha : PEd X ct E a da) (hl : POd X ct E lo dl) (hh : POd X ct E hi dh) : PEd X ct E (.Subscript a (.Slice lo hi none p2) pos) (dSl fSl da dl dh) := by
  obtain ⟨t, h1, h2⟩ := ha
  obtain ⟨tl, l1, l2⟩ := hl
  obtain ⟨th, k1, k2⟩ := hh
  refine ⟨_, pe_slice sl_list h1 l1 k1, fun ρ σ H es eh Q rel h => ?_⟩
  refine h2.bind rel h fun ρ1 H1 x eh1 u e1 rel1 v1 h1 => ?_
  refine l2.bind rel1 h1 fun ρ2 H2 l eh2 l' e2 rel2 v2 h2 => ?_
  refine k2.bind rel2 h2 fun ρ3 H3 k eh3 k' e3 rel3 v3 h3 => ?_
  cases v2
  cases v3
  have v1' := (v1.mono e2).mono e3
  unfold fSl at h3
  split at h3
  · rename_i m
    split at h3
    · rename_i xs e4
      obtain ⟨a1, vs, g1, g2, g3⟩ := lst_of rel3.hr e4
      obtain ⟨a', q1, rfl⟩ := vr_ref.mp v1'
      rw [g1] at q1; cases q1
      refine ⟨a1, vs, rfl, g2, new_lst rel3.hr ?_ h3⟩
      unfold cutV
      rw [← g3.length]
      exact (g3.drop _).take _
    · exact h3.elim
  · exact h3.elim
def fLen : DL := fun xs h => match xs with
  | [.ref m] => match lstAt h m with
    | some xs => .ok (.int xs.length) h
    | none => .no
  | [.tup xs] => .ok (.int xs.length) h
  | _ => .no
theorem vrs_one {K : Fg} {ρ : Rho} {H : Hp} {x : EV} {vs : List V} (h : VRs K ρ H [x] vs) : ∃ v, vs = [v] ∧ VR K ρ H x v := by
  obtain ⟨v, r, rfl, h1, h2⟩ := vrs_cons.mp h
  rw [vrs_nil.mp h2]
  exact ⟨v, rfl, h1⟩
theorem vrs_two {K : Fg} {ρ : Rho} {H : Hp} {x y : EV} {vs : List V} (h : VRs K ρ H [x, y] vs) : ∃ v u, vs = [v, u] ∧ VR K ρ H x v ∧ VR K ρ H y u := by
  obtain ⟨v, r, rfl, h1, h2⟩ := vrs_cons.mp h
  obtain ⟨u, rfl, h3⟩ := vrs_one h2
  exact ⟨v, u, rfl, h1, h3⟩
theorem c_len : Cld X ct E (.builtin "len") fLen := ⟨_, call_len_seq, fun ρ H eh xs as Q hr hx h => by
  unfold fLen at h
  split at h
  · rename_i m
    split at h
    · rename_i ys e1
      obtain ⟨v, rfl, hv⟩ := vrs_one hx
      obtain ⟨a1, vs, g1, g2, g3⟩ := lst_of hr e1
      obtain ⟨a', q1, rfl⟩ := vr_ref.mp hv
      rw [g1] at q1; cases q1
      exact ⟨a1, vs, rfl, .inl g2, h ρ H _ (Ext.refl _ _ _) hr (by rw [g3.length]; exact vr_int.mpr rfl)⟩
    · exact h.elim
  · rename_i ys
    obtain ⟨v, rfl, hv⟩ := vrs_one hx
    obtain ⟨a1, vs, rfl, g2, g3⟩ := vr_tup.mp hv
    exact ⟨a1, vs, rfl, .inr (SqT.of g2), h ρ H _ (Ext.refl _ _ _) hr (by rw [g3.length]; exact vr_int.mpr rfl)⟩
  · exact h.elim⟩
def fListOf : DL := fun xs h => match xs with
  | [.ref m] => match lstAt h m with
    | some xs => .ok (.ref h.length) (h ++ [.lst xs])
    | none => .no
  | [.tup xs] => .ok (.ref h.length) (h ++ [.lst xs])
  | _ => .no
theorem c_list : Cld X ct E (.type "list") fListOf := ⟨_, call_list_of, fun ρ H eh xs as Q hr hx h => by
  unfold fListOf at h
  split at h
  · rename_i m
    split at h
    · rename_i ys e1
      obtain ⟨v, rfl, hv⟩ := vrs_one hx
      obtain ⟨a1, vs, g1, g2, g3⟩ := lst_of hr e1
      obtain ⟨a', q1, rfl⟩ := vr_ref.mp hv
      rw [g1] at q1; cases q1
      exact ⟨a1, vs, rfl, .inl g2, new_lst hr g3 h⟩
    · exact h.elim
  · rename_i ys
    obtain ⟨v, rfl, hv⟩ := vrs_one hx
    obtain ⟨a1, vs, rfl, g2, g3⟩ := vr_tup.mp hv
    exact ⟨a1, vs, rfl, .inr (SqT.of g2), new_lst hr g3 h⟩
  · exact h.elim⟩
mutual
def dat0 (f : Nat → Option (List PyData)) : EV → Option PyData
  | .non => some .none
  | .bl b => some (.bool b)
  | .int i => some (.int i)
  | .str x => some (.str x)
  | .ref n => (f n).map PyData.list
  | .ty _ => none
  | .tup xs => (dat0s f xs).map PyData.tuple
def dat0s (f : Nat → Option (List PyData)) : List EV → Option (List PyData)
  | [] => some []
  | x :: xs => match dat0 f x, dat0s f xs with
    | some d, some ds => some (d :: ds)
    | _, _ => none
end
def datF (h : EH) : Nat → Nat → Option (List PyData)
  | 0, _ => none
  | n + 1, k => match lstAt h k with
    | some xs => dat0s (datF h n) xs
    | none => none
def dat (h : EH) (x : EV) : Option PyData := dat0 (datF h 4) x
mutual
theorem dat0_dp {G : Gx} {ρ : Rho} {H : Hp} {f : Nat → Option (List PyData)} (hf : ∀ n ds, f n = some ds → ∃ a vs, adr ρ n = some a ∧ SqL G.K H a vs ∧ DpAll G.K H vs ds) : ∀ (x : EV) (v : V) (d : PyData), VR G.K ρ H x v → dat0 f x = some d → Dp G.K H v d
  | .non, v, d, hx, h => by
    rw [vr_non.mp hx]
    simp only [dat0, Option.some.injEq] at h
    subst h
    exact .non
  | .bl b, v, d, hx, h => by
    rw [vr_bl.mp hx]
    simp only [dat0, Option.some.injEq] at h
    subst h
    exact .bl b
  | .int b, v, d, hx, h => by
    rw [vr_int.mp hx]
    simp only [dat0, Option.some.injEq] at h
    subst h
    exact .int b
  | .str b, v, d, hx, h => by
    rw [vr_str.mp hx]
    simp only [dat0, Option.some.injEq] at h
    subst h
    exact .str b
  | .ty b, v, d, hx, h => by
    simp only [dat0] at h
    cases h
  | .ref n, v, d, hx, h => by
    simp only [dat0] at h
    obtain ⟨ds, h1, rfl⟩ := Option.map_eq_some_iff.mp h
    obtain ⟨a, vs, e1, e2, e3⟩ := hf n ds h1
    obtain ⟨a', e4, rfl⟩ := vr_ref.mp hx
    rw [e1] at e4; cases e4
    exact .lst e2 e3
  | .tup xs, v, d, hx, h => by
    simp only [dat0] at h
    obtain ⟨ds, h1, rfl⟩ := Option.map_eq_some_iff.mp h
    obtain ⟨a, vs, rfl, e2, e3⟩ := vr_tup.mp hx
    exact .tup (SqT.of e2) (dat0s_dp hf xs vs ds e3 h1)
theorem dat0s_dp {G : Gx} {ρ : Rho} {H : Hp} {f : Nat → Option (List PyData)} (hf : ∀ n ds, f n = some ds → ∃ a vs, adr ρ n = some a ∧ SqL G.K H a vs ∧ DpAll G.K H vs ds) : ∀ (xs : List EV) (vs : List V) (ds : List PyData), VRs G.K ρ H xs vs → dat0s f xs = some ds → DpAll G.K H vs ds
  | [], vs, ds, hx, h => by
    rw [vrs_nil.mp hx]
    simp only [dat0s, Option.some.injEq] at h
    subst h
    exact .nil
  | x :: xs, vs, ds, hx, h => by
    obtain ⟨v, r, rfl, h1, h2⟩ := vrs_cons.mp hx
    simp only [dat0s] at h
    split at h
    · rename_i d ds' e1 e2
      cases h
      exact .cons (dat0_dp hf x v d h1 e1) (dat0s_dp hf xs r ds' h2 e2)
    · cases h
end
theorem datF_dp {G : Gx} {ρ : Rho} {H : Hp} {eh : EH} (hr : HR G ρ H eh) : ∀ (m n : Nat) (ds : List PyData), datF eh m n = some ds → ∃ a vs, adr ρ n = some a ∧ SqL G.K H a vs ∧ DpAll G.K H vs ds
  | 0, n, ds, h => by cases h
  | m + 1, n, ds, h => by
    simp only [datF] at h
    split at h
    · rename_i xs e1
      obtain ⟨a, vs, g1, g2, g3⟩ := lst_of hr e1
      exact ⟨a, vs, g1, g2, dat0s_dp (fun k ks => datF_dp hr m k ks) xs vs ds g3 h⟩
    · cases h
theorem dat_dp {G : Gx} {ρ : Rho} {H : Hp} {eh : EH} (hr : HR G ρ H eh) {x : EV} {v : V} {d : PyData} (hx : VR G.K ρ H x v) (h : dat eh x = some d) : Dp G.K H v d := dat0_dp (datF_dp hr 4) x v d hx h
def fEqS (neg : Bool) : D2 := fun x y h => match x, y with
  | .int i, .int j => .ok (.bl (neg ^^ decide (i = j))) h
  | .bl i, .bl j => .ok (.bl (neg ^^ decide (i = j))) h
  | .str i, .str j => .ok (.bl (neg ^^ decide (i = j))) h
  | _, _ => .no
def fEqD (neg : Bool) : D2 := fun x y h => match dat h x, dat h y with
  | some d, some e => if (SeqAt.shaped d && SeqAt.shaped e) = true then .ok (.bl (neg ^^ PyData.eqv d e)) h else .no
  | _, _ => .no
abbrev fEq : D2 := d2or (fEqS false) (fEqD false)
abbrev fNe : D2 := d2or (fEqS true) (fEqD true)
theorem o_eqS : Opd X ct E (compareOp .Eq) (fEqS false) := ⟨_, op_eq, fun ρ H eh x y a b Q hr hx hy h => by
  unfold fEqS at h
  split at h
  · rename_i i j
    rw [vr_int.mp hx, vr_int.mp hy]
    refine ⟨rfl, h ρ H _ (Ext.refl _ _ _) hr (vr_bl.mpr ?_)⟩
    simp
  · rename_i i j
    rw [vr_bl.mp hx, vr_bl.mp hy]
    refine ⟨rfl, h ρ H _ (Ext.refl _ _ _) hr (vr_bl.mpr ?_)⟩
    simp
  · rename_i i j
    rw [vr_str.mp hx, vr_str.mp hy]
    refine ⟨rfl, h ρ H _ (Ext.refl _ _ _) hr (vr_bl.mpr ?_)⟩
    simp
  · exact h.elim⟩
theorem o_neS : Opd X ct E (compareOp .NotEq) (fEqS true) := ⟨_, op_ne, fun ρ H eh x y a b Q hr hx hy h => by
  unfold fEqS at h
  split at h
  · rename_i i j
    rw [vr_int.mp hx, vr_int.mp hy]
    refine ⟨rfl, h ρ H _ (Ext.refl _ _ _) hr (vr_bl.mpr ?_)⟩
    simp
  · rename_i i j
    rw [vr_bl.mp hx, vr_bl.mp hy]
    refine ⟨rfl, h ρ H _ (Ext.refl _ _ _) hr (vr_bl.mpr ?_)⟩
    simp
  · rename_i i j
    rw [vr_str.mp hx, vr_str.mp hy]
    refine ⟨rfl, h ρ H _ (Ext.refl _ _ _) hr (vr_bl.mpr ?_)⟩
    simp
  · exact h.elim⟩
theorem o_eqD (hu : X.A.units + 64 < cLine) : Opd X ct E (compareOp .Eq) (fEqD false) := ⟨_, op_eqD hu, fun ρ H eh x y a b Q hr hx hy h => by
  unfold fEqD at h
  split at h
  · rename_i d e e1 e2
    split at h
    · rename_i hs
      simp only [Bool.and_eq_true] at hs
      refine ⟨d, e, dat_dp hr hx e1, dat_dp hr hy e2, hs.1, hs.2, h ρ H _ (Ext.refl _ _ _) hr (vr_bl.mpr ?_)⟩
      simp
    · exact h.elim
  · exact h.elim⟩
theorem o_neD (hu : X.A.units + 64 < cLine) : Opd X ct E (compareOp .NotEq) (fEqD true) := ⟨_, op_neD hu, fun ρ H eh x y a b Q hr hx hy h => by
  unfold fEqD at h
  split at h
  · rename_i d e e1 e2
    split at h
    · rename_i hs
      simp only [Bool.and_eq_true] at hs
      refine ⟨d, e, dat_dp hr hx e1, dat_dp hr hy e2, hs.1, hs.2, h ρ H _ (Ext.refl _ _ _) hr (vr_bl.mpr ?_)⟩
      simp
    · exact h.elim
  · exact h.elim⟩
theorem o_eq (hu : X.A.units + 64 < cLine) : Opd X ct E (compareOp .Eq) fEq := o_eqS.or (o_eqD hu)
theorem o_ne (hu : X.A.units + 64 < cLine) : Opd X ct E (compareOp .NotEq) fNe := o_neS.or (o_neD hu)
def fInL (neg : Bool) : D2 := fun x y h => match y with
  | .ref n => match dat h x, datF h 4 n with
    | some d, some ds => if (SeqAt.shaped d && SeqAt.shaped (.list ds)) = true then .ok (.bl (neg ^^ ds.any fun z => PyData.eqv z d)) h else .no
    | _, _ => .no
  | _ => .no
theorem dat_ref {eh : EH} {n : Nat} {ds : List PyData} (h : datF eh 4 n = some ds) : dat eh (.ref n) = some (.list ds) := by
  unfold dat
  simp only [dat0, h, Option.map_some]
theorem o_inL (hu : X.A.units + 65 < cLine) : Opd X ct E (compareOp .In) (fInL false) := ⟨_, op_inD hu, fun ρ H eh x y a b Q hr hx hy h => by
  unfold fInL at h
  split at h
  · rename_i n
    split at h
    · rename_i d ds e1 e2
      split at h
      · rename_i hs
        simp only [Bool.and_eq_true] at hs
        refine ⟨d, ds, dat_dp hr hx e1, dat_dp hr hy (dat_ref e2), hs.1, hs.2, h ρ H _ (Ext.refl _ _ _) hr (vr_bl.mpr ?_)⟩
        simp
      · exact h.elim
    · exact h.elim
  · exact h.elim⟩
theorem o_notInL (hu : X.A.units + 65 < cLine) : Opd X ct E (compareOp .NotIn) (fInL true) := ⟨_, op_notInD hu, fun ρ H eh x y a b Q hr hx hy h => by
  unfold fInL at h
  split at h
  · rename_i n
    split at h
    · rename_i d ds e1 e2
      split at h
      · rename_i hs
        simp only [Bool.and_eq_true] at hs
        refine ⟨d, ds, dat_dp hr hx e1, dat_dp hr hy (dat_ref e2), hs.1, hs.2, h ρ H _ (Ext.refl _ _ _) hr (vr_bl.mpr ?_)⟩
        simp
      · exact h.elim
    · exact h.elim
  · exact h.elim⟩
def fIsN (neg : Bool) : D2 := fun x y h => match x, y with
  | .non, .non => .ok (.bl (neg ^^ true)) h
  | .int _, .non => .ok (.bl (neg ^^ false)) h
  | .bl _, .non => .ok (.bl (neg ^^ false)) h
  | .str _, .non => .ok (.bl (neg ^^ false)) h
  | .ref _, .non => .ok (.bl (neg ^^ false)) h
  | .tup _, .non => .ok (.bl (neg ^^ false)) h
  | _, _ => .no
theorem o_isN : Opd X ct E (compareOp .Is) (fIsN false) := ⟨_, op_isN, fun ρ H eh x y a b Q hr hx hy h => by
  unfold fIsN at h
  split at h
  · rw [vr_non.mp hx]
    exact ⟨vr_non.mp hy, h ρ H _ (Ext.refl _ _ _) hr (vr_bl.mpr (by simp))⟩
  · rw [vr_int.mp hx]
    exact ⟨vr_non.mp hy, h ρ H _ (Ext.refl _ _ _) hr (vr_bl.mpr (by simp))⟩
  · rw [vr_bl.mp hx]
    exact ⟨vr_non.mp hy, h ρ H _ (Ext.refl _ _ _) hr (vr_bl.mpr (by simp))⟩
  · rw [vr_str.mp hx]
    exact ⟨vr_non.mp hy, h ρ H _ (Ext.refl _ _ _) hr (vr_bl.mpr (by simp))⟩
  · obtain ⟨q, _, rfl⟩ := vr_ref.mp hx
    exact ⟨vr_non.mp hy, h ρ H _ (Ext.refl _ _ _) hr (vr_bl.mpr (by simp))⟩
  · obtain ⟨q, _, rfl, _⟩ := vr_tup.mp hx
    exact ⟨vr_non.mp hy, h ρ H _ (Ext.refl _ _ _) hr (vr_bl.mpr (by simp))⟩
  · exact h.elim⟩
theorem o_notN : Opd X ct E (compareOp .IsNot) (fIsN true) := ⟨_, op_notN, fun ρ H eh x y a b Q hr hx hy h => by
  unfold fIsN at h
  split at h
  · rw [vr_non.mp hx]
    exact ⟨vr_non.mp hy, h ρ H _ (Ext.refl _ _ _) hr (vr_bl.mpr (by simp))⟩
  · rw [vr_int.mp hx]
    exact ⟨vr_non.mp hy, h ρ H _ (Ext.refl _ _ _) hr (vr_bl.mpr (by simp))⟩
  · rw [vr_bl.mp hx]
    exact ⟨vr_non.mp hy, h ρ H _ (Ext.refl _ _ _) hr (vr_bl.mpr (by simp))⟩
  · rw [vr_str.mp hx]
    exact ⟨vr_non.mp hy, h ρ H _ (Ext.refl _ _ _) hr (vr_bl.mpr (by simp))⟩
  · obtain ⟨q, _, rfl⟩ := vr_ref.mp hx
    exact ⟨vr_non.mp hy, h ρ H _ (Ext.refl _ _ _) hr (vr_bl.mpr (by simp))⟩
  · obtain ⟨q, _, rfl, _⟩ := vr_tup.mp hx
    exact ⟨vr_non.mp hy, h ρ H _ (Ext.refl _ _ _) hr (vr_bl.mpr (by simp))⟩
  · exact h.elim⟩
variable {a b c e : Expr} {es rest : List Expr} {pos : Pos} {da db dc : DE} {dt du : DT} {dr : DA}
theorem xe_cmp {op : CmpOp} {f : D2} (ho : Opd X ct E (compareOp op) f) (ha : PEd X ct E a da) (hb : PEd X ct E b db) (hm : behindInMarks op b = false := by first | exact nobehind _ (by decide) (by decide) | rfl) : PEd X ct E (.Compare a [op] [b] pos) (dOp f da db) := by
  obtain ⟨r, h1, h2⟩ := ho
  obtain ⟨ta, a1, a2⟩ := ha
  obtain ⟨tb, b1, b2⟩ := hb
  exact ⟨_, pe_cmpR h1 a1 b1 hm, snd_op h2 a2 b2⟩
theorem xt_cmp {op : CmpOp} {f : D2} (ho : Opd X ct E (compareOp op) f) (ha : PEd X ct E a da) (hb : PEd X ct E b db) (hm : behindInMarks op b = false := by first | exact nobehind _ (by decide) (by decide) | rfl) : PTd X ct E (.Compare a [op] [b] pos) (dB (dOp f da db)) := by
  obtain ⟨r, h1, h2⟩ := ho
  obtain ⟨ta, a1, a2⟩ := ha
  obtain ⟨tb, b1, b2⟩ := hb
  exact ⟨_, pt_cmpR h1 a1 b1 hm, snd_B (snd_op h2 a2 b2)⟩
def dChain (f g : D2) (a b c : DE) : DE := fun es h => (a es h).bind fun x h1 => (b es h1).bind fun y h2 => (f x y h2).bind fun z h3 => match z with
  | .bl k => if k = true then (c es h3).bind fun w h4 => g y w h4 else .ok (.bl false) h3
  | _ => .no
theorem Snd2.bind {r : R2} {f : D2} {E : XK} (h : Snd2 G E r f) {ρ : Rho} {H : Hp} {eh : EH} (hr : HR G ρ H eh) {x y : EV} {a b : V} (hx : VR G.K ρ H x a) (hy : VR G.K ρ H y b)
    {γ δ : Type} {R2' : Rho → Hp → γ → δ → Prop} {k : EV → EH → Res γ} {Q2 : δ → Hp → Prop} (hw : wr G R2' ρ H ((f x y eh).bind k) Q2 E) {Kt : V → Hp → Prop}
    (hk : ∀ ρ1 H1 v eh1 u, Ext G.K ρ ρ1 H H1 → HR G ρ1 H1 eh1 → VR G.K ρ1 H1 v u → wr G R2' ρ1 H1 (k v eh1) Q2 E → Kt u H1) : r a b H Kt := by
  refine h ρ H eh x y a b Kt hr hx hy ?_
  cases q : f x y eh with
  | ok v h' =>
    rw [q] at hw
    exact fun ρ' H' u e hr' rv => hk ρ' H' v h' u e hr' rv (hw.mono e)
  | er z h' =>
    rw [q] at hw
    exact hw
  | no =>
    rw [q] at hw
    exact hw
theorem snd_chain {r r' : R2} {f g : D2} {ta tb tc : TE} (hf : Snd2 G E r f) (hg : Snd2 G E r' g) (ha : SndE G E ta da) (hb : SndE G E tb db) (hc : SndE G E tc dc) : SndE G E (tChain r r' ta tb tc) (dChain f g da db dc) := fun ρ σ H es eh Q rel h => by
  refine ha.bind rel h fun ρ1 H1 x eh1 u e1 rel1 v1 h1 => ?_
  refine hb.bind rel1 h1 fun ρ2 H2 y eh2 w e2 rel2 v2 h2 => ?_
  refine hf.bind rel2.hr (v1.mono e2) v2 h2 fun ρ3 H3 z eh3 zz e3 hr3 v3 h3 => ?_
  cases z with
  | bl k =>
    refine ⟨k, vr_bl.mp v3, ?_⟩
    cases k with
    | true =>
      refine iteT (hc.bind (rel2.ext e3 hr3) h3 fun ρ4 H4 q eh4 qq e4 rel4 v4 h4 => ?_)
      exact hg ρ4 H4 eh4 y q w qq Q rel4.hr ((v2.mono e3).mono e4) v4 h4
    | false => exact iteF (h3 ρ3 H3 _ (Ext.refl _ _ _) hr3 (vr_bl.mpr rfl))
  | _ => exact h3.elim
theorem xe_chain {op op' : CmpOp} {f g : D2} (ho : Opd X ct E (compareOp op) f) (ho' : Opd X ct E (compareOp op') g) (ha : PEd X ct E a da) (hb : PEd X ct E b db) (hc : PEd X ct E c dc)
    (hm : lastMarks [op, op'] [b, c] = false := by with_unfolding_all rfl) : PEd X ct E (.Compare a [op, op'] [b, c] pos) (dChain f g da db dc) := by
  obtain ⟨r, h1, h2⟩ := ho
  obtain ⟨r', h1', h2'⟩ := ho'
  obtain ⟨ta, a1, a2⟩ := ha
  obtain ⟨tb, b1, b2⟩ := hb
  obtain ⟨tc, c1, c2⟩ := hc
  exact ⟨_, pe_chain h1 h1' a1 b1 c1 hm, snd_chain h2 h2' a2 b2 c2⟩
theorem xa_cons (ha : PEd X ct E e da) (hr : PAd X ct E es dr) (hs : starEach (e :: es) X.env = (false, eval e X.env) :: starEach es X.env := by rfl) : PAd X ct E (e :: es) (dCons da dr) := by
  obtain ⟨ta, a1, a2⟩ := ha
  obtain ⟨tr, r1, r2⟩ := hr
  exact ⟨_, pa_cons a1 r1 hs, snd_cons a2 r2⟩
theorem xe_callB {x : Str} {p : Pos} {id : String} {f : DL} (hc : Cld X ct E (.builtin id) f) (hg : Gl X x) (hm : X.mg x = none) (hv : bootBuiltins x = some (.builtin id)) (ha : PAd X ct E (e :: es) dr) (hn : x ≠ "__name__" := by decide) (hdb : (x == ("__debug__" : Str)) = false := by decide)
    (he : starEach (e :: es) X.env = (false, eval e X.env) :: starEach es X.env := by rfl) (hpl : (backTo pos (starEach es X.env)).any (·.1) = false := by rfl) : PEd X ct E (.Call (.Name x p) (e :: es) [] pos) (dCB f dr) := by
  obtain ⟨r, h1, h2⟩ := hc
  obtain ⟨ta, a1, a2⟩ := ha
  exact ⟨_, pe_callB h1 hg hm hv a1 hn hdb he hpl, snd_cb h2 a2⟩
theorem xe_callTy {x : Str} {p : Pos} {T : String} {f : DL} (hc : Cld X ct E (.type T) f) (hg : Gl X x) (hm : X.mg x = none) (hv : bootBuiltins x = some (.type T)) (ha : PAd X ct E (e :: es) dr) (hn : x ≠ "__name__" := by decide) (hdb : (x == ("__debug__" : Str)) = false := by decide)
    (he : starEach (e :: es) X.env = (false, eval e X.env) :: starEach es X.env := by rfl) (hpl : (backTo pos (starEach es X.env)).any (·.1) = false := by rfl) : PEd X ct E (.Call (.Name x p) (e :: es) [] pos) (dCB f dr) := by
  obtain ⟨r, h1, h2⟩ := hc
  obtain ⟨ta, a1, a2⟩ := ha
  exact ⟨_, pe_callTy h1 hg hm hv a1 hn hdb he hpl, snd_cb h2 a2⟩
end
inductive Ty where
  | none_ | bool_ | int_ | str_ | list_ | tuple_ | dict_
  deriving DecidableEq
def Ty.nm : Ty → String
  | .none_ => "NoneType" | .bool_ => "bool" | .int_ => "int" | .str_ => "str" | .list_ => "list" | .tuple_ => "tuple" | .dict_ => "dict"
def Ty.isa : Ty → Ty → Bool
  | .bool_, .int_ => true
  | a, b => decide (a = b)
theorem kit_all {K : Fg} : ∀ t c : Ty, PySem.W.kitOne K (.type t.nm) (.type c.nm) = some (t.isa c) := fun t c => kit_ty (by cases t <;> cases c <;> decide +kernel)
def tyOf (h : EH) : EV → Option Ty
  | .non => some .none_
  | .bl _ => some .bool_
  | .int _ => some .int_
  | .str _ => some .str_
  | .tup _ => some .tuple_
  | .ty _ => none
  | .ref n => match h[n]? with
    | some (.lst _) => some .list_
    | some (.ro _) => some .list_
    | some (.dic _ _) => some .dict_
    | _ => none
theorem tyOf_tx {G : Gx} {ρ : Rho} {H : Hp} {eh : EH} (hr : HR G ρ H eh) {x : EV} {v : V} {t : Ty} (hx : VR G.K ρ H x v) (h : tyOf eh x = some t) : TyX G.K H v (.type t.nm) := by
  cases x with
  | non => rw [vr_non.mp hx]; cases h; exact .base .non
  | bl b => rw [vr_bl.mp hx]; cases h; exact .base (.bl b)
  | int b => rw [vr_int.mp hx]; cases h; exact .base (.int b)
  | str b => rw [vr_str.mp hx]; cases h; exact .base (.str b)
  | tup xs =>
    obtain ⟨a, vs, rfl, e2, e3⟩ := vr_tup.mp hx
    cases h
    exact .base (.tup e2)
  | ty n => cases h
  | ref n =>
    obtain ⟨a, ha, rfl⟩ := vr_ref.mp hx
    simp only [tyOf] at h
    split at h
    · rename_i xs e
      cases h
      obtain ⟨a', ha', vs, h2, _⟩ := hr.obj n _ e
      rw [adr_of ha'] at ha; cases ha
      exact .base (.lst h2)
    · rename_i xs e
      cases h
      obtain ⟨a', ha', vs, h2, _⟩ := hr.obj n _ e
      rw [adr_of ha'] at ha; cases ha
      rcases h2 with ⟨o, h2⟩ | ⟨o, its, k, h2, h3, _⟩
      · exact .base (.frz h2)
      · exact .kList h2 h3
    · rename_i t0 xs e
      cases h
      obtain ⟨a', ha', h2⟩ := hr.obj n _ e
      rw [adr_of ha'] at ha; cases ha
      obtain ⟨u, h2, h3⟩ := h2
      cases t0 with
      | false =>
        obtain ⟨l, rfl, _⟩ := h3
        exact .base (.dK h2)
      | true =>
        obtain ⟨l, rfl, _⟩ := h3
        exact .base (.dT h2)
    · cases h
def fIsi (c : Ty) (d : DE) : DE := fun es h => (d es h).bind fun x h1 => match tyOf h1 x with
  | some t => .ok (.bl (t.isa c)) h1
  | none => .no
def fIsi2 (c c' : Ty) (d : DE) : DE := fun es h => (d es h).bind fun x h1 => match tyOf h1 x with
  | some t => .ok (.bl (t.isa c || t.isa c')) h1
  | none => .no
section
variable {X : Cx} {ct : Nat → Addr × List Str} {E : XK} {e : Expr} {pos p q : Pos} {d : DE}
theorem xe_isi (c : Ty) {y : Str} (hg : Gl X "isinstance") (hm : X.mg "isinstance" = none) (hgy : Gl X y) (hmy : X.mg y = none) (hvy : bootBuiltins y = some (.type c.nm)) (he : PEd X ct E e d) (hn : y ≠ "__name__" := by decide) (hdb : (y == ("__debug__" : Str)) = false := by decide)
    (hs1 : starEach [e, .Name y q] X.env = (false, eval e X.env) :: starEach [.Name y q] X.env := by rfl) (hs2 : starEach [.Name y q] X.env = (false, eval (.Name y q) X.env) :: starEach [] X.env := by rfl) (hpl : (backTo pos (starEach [.Name y q] X.env)).any (·.1) = false := by rfl) :
    PEd X ct E (.Call (.Name "isinstance" p) [e, .Name y q] [] pos) (fIsi c d) := by
  obtain ⟨t, h1, h2⟩ := he
  refine ⟨_, pe_callB call_isi hg hm (by decide +kernel) (pa_cons h1 (pa_cons (pe_bltn (v := .ty c.nm) hgy hmy hvy rfl hn hdb) pa_nil hs2) hs1) (by decide) (by decide) hs1 hpl, fun ρ σ H es eh Q rel h => ?_⟩
  refine h2.bind rel h fun ρ1 H1 x eh1 u e1 rel1 v1 h1 => ?_
  split at h1
  · rename_i t ht
    exact ⟨u, .ty c.nm, _, _, t.isa c, rfl, .ty _, tyOf_tx rel1.hr v1 ht, kit_all t c, h1 ρ1 H1 _ (Ext.refl _ _ _) rel1.hr (vr_bl.mpr rfl)⟩
  · exact h1.elim
theorem xe_isi2 (c c' : Ty) {y y' : Str} {k : Nat} {q' qt : Pos} (hg : Gl X "isinstance") (hm : X.mg "isinstance" = none) (hgy : Gl X y) (hmy : X.mg y = none) (hvy : bootBuiltins y = some (.type c.nm)) (hgy' : Gl X y') (hmy' : X.mg y' = none) (hvy' : bootBuiltins y' = some (.type c'.nm)) (he : PEd X ct E e d)
    (hn : y ≠ "__name__" := by decide) (hdb : (y == ("__debug__" : Str)) = false := by decide) (hn' : y' ≠ "__name__" := by decide) (hdb' : (y' == ("__debug__" : Str)) = false := by decide)
    (hs1 : starEach [e, .Tuple [.Name y q, .Name y' q'] k qt] X.env = (false, eval e X.env) :: starEach [.Tuple [.Name y q, .Name y' q'] k qt] X.env := by rfl) (hs2 : starEach [.Tuple [.Name y q, .Name y' q'] k qt] X.env = (false, eval (.Tuple [.Name y q, .Name y' q'] k qt) X.env) :: starEach [] X.env := by rfl)
    (hs3 : starEach [.Name y q, .Name y' q'] X.env = (false, eval (.Name y q) X.env) :: starEach [.Name y' q'] X.env := by rfl) (hs4 : starEach [.Name y' q'] X.env = (false, eval (.Name y' q') X.env) :: starEach [] X.env := by rfl)
    (hpl : (backTo pos (starEach [.Tuple [.Name y q, .Name y' q'] k qt] X.env)).any (·.1) = false := by rfl) :
    PEd X ct E (.Call (.Name "isinstance" p) [e, .Tuple [.Name y q, .Name y' q'] k qt] [] pos) (fIsi2 c c' d) := by
  obtain ⟨t, h1, h2⟩ := he
  refine ⟨_, pe_callB call_isiT hg hm (by decide +kernel) (pa_cons h1 (pa_cons (pe_tup (pa_cons (pe_bltn (v := .ty c.nm) hgy hmy hvy rfl hn hdb) (pa_cons (pe_bltn (v := .ty c'.nm) hgy' hmy' hvy' rfl hn' hdb') pa_nil hs4) hs3)) pa_nil hs2) hs1) (by decide) (by decide) hs1 hpl, fun ρ σ H es eh Q rel h => ?_⟩
  refine h2.bind rel h fun ρ1 H1 x eh1 u e1 rel1 v1 h1 => ?_
  split at h1
  · rename_i t ht
    refine ⟨by show 2 ≤ sizeLine; decide, fun tp hp => ?_⟩
    have hr2 := rel1.hr.side (HO.tup [.ty c.nm, .ty c'.nm]) hp
    refine ⟨u, tp, [.ty c.nm, .ty c'.nm], _, [.type c.nm, .type c'.nm], t.isa c || t.isa c', rfl, upd_same, .cons (.ty _) (.cons (.ty _) .nil), tyOf_tx hr2 (v1.mono (Ext.side _ hp)) ht, ?_, h1 ρ1 _ _ (Ext.side _ hp) hr2 (vr_bl.mpr rfl)⟩
    refine kitAny_cons (kit_all t c) (fun hb => ?_) (fun hb => by rw [hb]; rfl)
    rw [hb, Bool.false_or]
    exact kitAny_cons (kit_all t c') (fun hb2 => by rw [hb2]; rfl) (fun hb2 => hb2)
  · exact h1.elim
end
end EE
set_option Elab.async false
set_option linter.all false
set_option maxRecDepth 100000
set_option maxHeartbeats 1000000
namespace EE
open PySem PySem.Spec PyProof.Rows L2
def dNext : DS := fun es h => .ok (.nx es) h
def dSeq (a b : DS) : DS := fun es h => (a es h).bind fun f h1 => match f with
  | .nx es1 => b es1 h1
  | .rt v => .ok (.rt v) h1
  | .bk e => .ok (.bk e) h1
  | .ct e => .ok (.ct e) h1
def dIfS (t : DT) (a b : DS) : DS := fun es h => (t es h).bind fun c h1 => if c = true then a es h1 else b es h1
def dRet (a : DE) : DS := fun es h => (a es h).bind fun x h1 => .ok (.rt x) h1
def dRetN : DS := fun _ h => .ok (.rt .non) h
def dDrop (a : DE) : DS := fun es h => (a es h).bind fun _ h1 => .ok (.nx es) h1
def dNever : DS := fun _ _ => .no
def dBreak : DS := fun es h => .ok (.bk es) h
def dCont : DS := fun es h => .ok (.ct es) h
abbrev DG := EV → ES → EH → Res ES
abbrev DGs := List EV → ES → EH → Res ES
abbrev DSet := EV → EV → EV → EH → Res Unit
def dName (i : Nat) : DG := fun x es h => .ok (es.set i (some x)) h
def dGNil : DGs := fun xs es h => match xs with
  | [] => .ok es h
  | _ => .no
def dGCons (g : DG) (r : DGs) : DGs := fun xs es h => match xs with
  | x :: xs => (g x es h).bind fun es1 h1 => r xs es1 h1
  | [] => .no
def dGTup (n : Nat) (r : DGs) : DG := fun x es h => match x with
  | .tup xs => if xs.length = n then r xs es h else .no
  | _ => .no
def dGSub (a b : DE) (f : DSet) : DG := fun x es h => (a es h).bind fun o h1 => (b es h1).bind fun i h2 => (f o i x h2).bind fun _ h3 => .ok es h3
def dAsg (a : DE) (g : DG) : DS := fun es h => (a es h).bind fun x h1 => (g x es h1).bind fun es1 h2 => .ok (.nx es1) h2
def dPar (i j : Nat) (a : DA) : DS := fun es h => (a es h).bind fun xs h1 => match xs with
  | [x, y] => .ok (.nx ((es.set i (some x)).set j (some y))) h1
  | _ => .no
def dAug (i : Nat) (a : DE) (f : D2) : DS := fun es h => match es[i]? with
  | some (some x) => (a es h).bind fun y h1 => (f x y h1).bind fun z h2 => .ok (.nx (es.set i (some z))) h2
  | _ => .no
abbrev RS (G : Gx) : Rho → Hp → ES → L2.St → Prop := fun ρ H es σ => SR G.K ρ H es σ
def SndG (G : Gx) (E : XK) (t : TG) (d : DG) : Prop := ∀ ρ σ H es eh x u Q, Rel G ρ σ H es eh → VR G.K ρ H x u → wr G (RS G) ρ H (d x es eh) Q E → t u σ H Q
def SndGs (G : Gx) (E : XK) (t : TGs) (d : DGs) : Prop := ∀ ρ σ H es eh x u Q, Rel G ρ σ H es eh → VRs G.K ρ H x u → wr G (RS G) ρ H (d x es eh) Q E → t u σ H Q
def SndSet (G : Gx) (E : XK) (t : TSet) (d : DSet) : Prop := ∀ ρ H eh o i x a b c Q, HR G ρ H eh → VR G.K ρ H o a → VR G.K ρ H i b → VR G.K ρ H x c → wr G (fun _ _ (_ : Unit) (_ : Unit) => True) ρ H (d o i x eh) (fun _ => Q) E → t a b c H Q
section
variable (X : Cx) (ct : Nat → Addr × List Str) (E : XK)
def PGd (e : Expr) (d : DG) : Prop := ∃ t, PG X e t ∧ SndG ⟨X.K, ct⟩ E t d
def PGsd (e : List Expr) (d : DGs) : Prop := ∃ t, PGs X e t ∧ SndGs ⟨X.K, ct⟩ E t d
def PSetd (d : DSet) : Prop := ∃ t, PSet X t ∧ SndSet ⟨X.K, ct⟩ E t d
end
section
variable {G : Gx} {E : XK}
theorem SndG.bind {t : TG} {d : DG} (h : SndG G E t d) {ρ : Rho} {σ : L2.St} {H : Hp} {es : ES} {eh : EH} (rel : Rel G ρ σ H es eh) {x : EV} {u : V} (hx : VR G.K ρ H x u)
    {γ δ : Type} {R2 : Rho → Hp → γ → δ → Prop} {k : ES → EH → Res γ} {Q2 : δ → Hp → Prop} (hw : wr G R2 ρ H ((d x es eh).bind k) Q2 E) {Kt : L2.St → Hp → Prop}
    (hk : ∀ ρ1 H1 es1 eh1 σ1, Ext G.K ρ ρ1 H H1 → Rel G ρ1 σ1 H1 es1 eh1 → d x es eh = .ok es1 eh1 → wr G R2 ρ1 H1 (k es1 eh1) Q2 E → Kt σ1 H1) : t u σ H Kt := by
  refine h ρ σ H es eh x u Kt rel hx ?_
  cases q : d x es eh with
  | ok v h' =>
    rw [q] at hw
    exact fun ρ' H' u e hr r => hk ρ' H' v h' u e ⟨r, hr⟩ q (hw.mono e)
  | er x h' =>
    rw [q] at hw
    exact hw
  | no =>
    rw [q] at hw
    exact hw
theorem SndGs.bind {t : TGs} {d : DGs} (h : SndGs G E t d) {ρ : Rho} {σ : L2.St} {H : Hp} {es : ES} {eh : EH} (rel : Rel G ρ σ H es eh) {x : List EV} {u : List V} (hx : VRs G.K ρ H x u)
    {γ δ : Type} {R2 : Rho → Hp → γ → δ → Prop} {k : ES → EH → Res γ} {Q2 : δ → Hp → Prop} (hw : wr G R2 ρ H ((d x es eh).bind k) Q2 E) {Kt : L2.St → Hp → Prop}
    (hk : ∀ ρ1 H1 es1 eh1 σ1, Ext G.K ρ ρ1 H H1 → Rel G ρ1 σ1 H1 es1 eh1 → wr G R2 ρ1 H1 (k es1 eh1) Q2 E → Kt σ1 H1) : t u σ H Kt := by
  refine h ρ σ H es eh x u Kt rel hx ?_
  cases q : d x es eh with
  | ok v h' =>
    rw [q] at hw
    exact fun ρ' H' u e hr r => hk ρ' H' v h' u e ⟨r, hr⟩ (hw.mono e)
  | er x h' =>
    rw [q] at hw
    exact hw
  | no =>
    rw [q] at hw
    exact hw
theorem SndS.bind {t : TS} {d : DS} (h : SndS G E t d) {ρ : Rho} {σ : L2.St} {H : Hp} {es : ES} {eh : EH} (rel : Rel G ρ σ H es eh)
    {γ δ : Type} {R2 : Rho → Hp → γ → δ → Prop} {k : Flw → EH → Res γ} {Q2 : δ → Hp → Prop} (hw : wr G R2 ρ H ((d es eh).bind k) Q2 E) {D : Ends}
    (hk : ∀ ρ1 H1 f eh1 vf, Ext G.K ρ ρ1 H H1 → HR G ρ1 H1 eh1 → RF G ρ1 H1 f vf → wr G R2 ρ1 H1 (k f eh1) Q2 E → qD D vf H1) : t D σ H := by
  refine h ρ σ H es eh D rel ?_
  cases q : d es eh with
  | ok v h' =>
    rw [q] at hw
    exact fun ρ' H' u e hr r => hk ρ' H' v h' u e hr r (hw.mono e)
  | er x h' =>
    rw [q] at hw
    exact hw
  | no =>
    rw [q] at hw
    exact hw
theorem snd_next : SndS G E tNext dNext := fun ρ σ H es eh D rel h => h ρ H (.nx σ) (Ext.refl _ _ _) rel.hr rel.sl
theorem snd_seq {t u : TS} {a b : DS} (ha : SndS G E t a) (hb : SndS G E u b) : SndS G E (tSeq t u) (dSeq a b) := fun ρ σ H es eh D rel h => by
  refine ha.bind rel h fun ρ1 H1 f eh1 vf e1 hr1 rf h1 => ?_
  cases f with
  | nx es1 =>
    cases vf with
    | nx σ1 => exact hb ρ1 σ1 H1 es1 eh1 D ⟨rf, hr1⟩ h1
    | _ => exact rf.elim
  | rt v =>
    cases vf with
    | rt w => exact h1 ρ1 H1 (.rt w) (Ext.refl _ _ _) hr1 rf
    | _ => exact rf.elim
  | bk v =>
    cases vf with
    | bk w => exact h1 ρ1 H1 (.bk w) (Ext.refl _ _ _) hr1 rf
    | _ => exact rf.elim
  | ct v =>
    cases vf with
    | ct w => exact h1 ρ1 H1 (.ct w) (Ext.refl _ _ _) hr1 rf
    | _ => exact rf.elim
theorem snd_ifS {tt : TT} {t u : TS} {c : DT} {a b : DS} (hc : SndT G E tt c) (ha : SndS G E t a) (hb : SndS G E u b) : SndS G E (tIfS tt t u) (dIfS c a b) := fun ρ σ H es eh D rel h => by
  refine hc.bind rel h fun ρ1 H1 x eh1 u e1 rel1 v1 h1 => ?_
  subst v1
  cases x with
  | true => exact iteT (ha ρ1 σ H1 es eh1 D rel1 h1)
  | false => exact iteF (hb ρ1 σ H1 es eh1 D rel1 h1)
theorem snd_ret {te : TE} {a : DE} (ha : SndE G E te a) : SndS G E (tRet te) (dRet a) := fun ρ σ H es eh D rel h => by
  refine ha.bind rel h fun ρ1 H1 x eh1 u e1 rel1 v1 h1 => ?_
  exact h1 ρ1 H1 (.rt u) (Ext.refl _ _ _) rel1.hr v1
theorem snd_retN : SndS G E tRetN dRetN := fun ρ σ H es eh D rel h => h ρ H (.rt .non) (Ext.refl _ _ _) rel.hr (show VR G.K ρ H .non .non from vr_non.mpr rfl)
theorem snd_drop {te : TE} {a : DE} (ha : SndE G E te a) : SndS G E (tDrop te) (dDrop a) := fun ρ σ H es eh D rel h => by
  refine ha.bind rel h fun ρ1 H1 x eh1 u e1 rel1 v1 h1 => ?_
  exact h1 ρ1 H1 (.nx σ) (Ext.refl _ _ _) rel1.hr rel1.sl
theorem snd_never : SndS G E tNever dNever := fun ρ σ H es eh D rel h => h
theorem snd_break : SndS G E tBreak dBreak := fun ρ σ H es eh D rel h => h ρ H (.bk σ) (Ext.refl _ _ _) rel.hr rel.sl
theorem snd_cont : SndS G E tCont dCont := fun ρ σ H es eh D rel h => h ρ H (.ct σ) (Ext.refl _ _ _) rel.hr rel.sl
theorem snd_gname {i : Nat} : SndG G E (gName i) (dName i) := fun ρ σ H es eh x u Q rel hx h => h ρ H _ (Ext.refl _ _ _) rel.hr (rel.sl.set i hx)
theorem snd_gnil : SndGs G E gNil dGNil := fun ρ σ H es eh x u Q rel hx h => by
  cases x with
  | nil => exact ⟨vrs_nil.mp hx, h ρ H _ (Ext.refl _ _ _) rel.hr rel.sl⟩
  | cons _ _ => exact h.elim
theorem snd_gcons {t : TG} {u : TGs} {d : DG} {ds : DGs} (h1 : SndG G E t d) (h2 : SndGs G E u ds) : SndGs G E (gCons t u) (dGCons d ds) := fun ρ σ H es eh x us Q rel hx h => by
  cases x with
  | nil => exact h.elim
  | cons x xs =>
    obtain ⟨v, r, rfl, v1, v2⟩ := vrs_cons.mp hx
    refine ⟨v, r, rfl, h1.bind rel v1 h fun ρ1 H1 es1 eh1 σ1 e1 rel1 _ hw => ?_⟩
    exact h2 ρ1 σ1 H1 es1 eh1 xs r Q rel1 (v2.mono e1) hw
theorem snd_gtup {n : Nat} {u : TGs} {ds : DGs} (h2 : SndGs G E u ds) : SndG G E (gTup G.K n u) (dGTup n ds) := fun ρ σ H es eh x us Q rel hx h => by
  cases x with
  | tup xs =>
    obtain ⟨a, vs, rfl, g2, g3⟩ := vr_tup.mp hx
    simp only [dGTup] at h
    split at h
    · rename_i hl
      exact ⟨a, vs, rfl, SqT.of g2, by rw [← g3.length]; exact hl, h2 ρ σ H es eh xs vs Q rel g3 h⟩
    · exact h.elim
  | _ => exact h.elim
theorem snd_gsub {to ti : TE} {t : TSet} {a b : DE} {f : DSet} (ha : SndE G E to a) (hb : SndE G E ti b) (hf : SndSet G E t f) : SndG G E (gSub to ti t) (dGSub a b f) := fun ρ σ H es eh x u Q rel hx h => by
  refine ha.bind rel h fun ρ1 H1 o eh1 w e1 rel1 v1 h1 => ?_
  refine hb.bind rel1 h1 fun ρ2 H2 i eh2 w2 e2 rel2 v2 h2 => ?_
  refine hf ρ2 H2 eh2 o i x w w2 u _ rel2.hr (v1.mono e2) v2 ((hx.mono e1).mono e2) ?_
  cases q : f o i x eh2 with
  | ok v h' =>
    rw [q] at h2
    exact fun ρ' H' u e hr r => h2 ρ' H' σ e hr (rel2.sl.mono e)
  | er z h' =>
    rw [q] at h2
    exact h2
  | no =>
    rw [q] at h2
    exact h2
theorem snd_asg {te : TE} {g : TG} {a : DE} {d : DG} (ha : SndE G E te a) (hg : SndG G E g d) : SndS G E (tAsg te g) (dAsg a d) := fun ρ σ H es eh D rel h => by
  refine ha.bind rel h fun ρ1 H1 x eh1 u e1 rel1 v1 h1 => ?_
  refine hg.bind rel1 v1 h1 fun ρ2 H2 es2 eh2 σ2 e2 rel2 _ h2 => ?_
  exact h2 ρ2 H2 (.nx σ2) (Ext.refl _ _ _) rel2.hr rel2.sl
theorem snd_par {i j : Nat} {ta : TA} {a : DA} (ha : SndA G E ta a) : SndS G E (tPar i j ta) (dPar i j a) := fun ρ σ H es eh D rel h => by
  refine ha.bind rel h fun ρ1 H1 x eh1 u e1 rel1 v1 h1 => ?_
  split at h1
  · rename_i x y
    obtain ⟨v, w, rfl, q1, q2⟩ := vrs_two v1
    exact ⟨v, w, rfl, h1 ρ1 H1 (.nx _) (Ext.refl _ _ _) rel1.hr ((rel1.sl.set i q1).set j q2)⟩
  · exact h1.elim
theorem snd_aug {i : Nat} {te : TE} {ti : TIp} {a : DE} {f : D2} (ha : SndE G E te a) (hf : Snd2 G E ti f) : SndS G E (tAug i te ti) (dAug i a f) := fun ρ σ H es eh D rel h => by
  unfold dAug at h
  split at h
  · rename_i x hx
    obtain ⟨u, h1, h2⟩ := rel.sl.2 i x hx
    refine ⟨u, h1, ha.bind rel h fun ρ1 H1 y eh1 w e1 rel1 v1 h1 => ?_⟩
    refine hf.bind rel1.hr (h2.mono e1) v1 h1 fun ρ2 H2 z eh2 zz e2 hr2 v2 h3 => ?_
    exact h3 ρ2 H2 (.nx _) (Ext.refl _ _ _) hr2 ((rel1.sl.mono e2).set i v2)
  · exact h.elim
end
def sLst : DSet := fun o i x h => match o, i with
  | .ref n, .int k => match mutAt h n with
    | some xs => match ixN xs.length k with
      | some j => .ok () (h.set n (.lst (xs.set j x)))
      | none => .no
    | none => .no
  | _, _ => .no
section
variable {X : Cx} {ct : Nat → Addr × List Str} {E : XK} {G : Gx}
theorem put_lst {ρ : Rho} {H : Hp} {eh : EH} {n : Nat} {a : Addr} {vs us : List V} {ys : List EV} (hr : HR G ρ H eh) (hn : ρ[n]? = some (true, a)) (ha : H a = some (.lst vs)) (hy : VRs G.K ρ H ys us) :
    Ext G.K ρ ρ H (upd H a (.lst us)) ∧ HR G ρ (upd H a (.lst us)) (eh.set n (.lst ys)) := by
  have e : Ext G.K ρ ρ H (upd H a (.lst us)) := Ext.write _ hn ha (fun _ z => by cases z) fun _ _ z => by cases z
  exact ⟨e, hr.write hn rfl e ⟨us, upd_same, hy.mono e⟩⟩
theorem set_lst : PSetd X ct E sLst := ⟨_, set_list, fun ρ H eh o i x a b c Q hr ho hi hx h => by
  unfold sLst at h
  split at h
  · rename_i n k
    split at h
    · rename_i xs e1
      split at h
      · rename_i j e2
        obtain ⟨a1, vs, g1, g2, g3, g4⟩ := mut_of hr e1
        obtain ⟨a', q1, rfl⟩ := vr_ref.mp ho
        rw [g1] at q1; cases q1
        obtain ⟨e, hr'⟩ := put_lst hr g4 g2 (g3.set hx j)
        exact ⟨a1, vs, k, j, rfl, vr_int.mp hi, g2, by rw [← g3.length]; exact e2, h ρ _ () e hr' trivial⟩
      · exact h.elim
    · exact h.elim
  · exact h.elim⟩
theorem PSetd.or {d d' : DSet} (h : PSetd X ct E d) (h' : PSetd X ct E d') : PSetd X ct E (fun o i x h => (d o i x h).orElse fun _ => d' o i x h) := by
  obtain ⟨r, h1, h2⟩ := h
  obtain ⟨r', h1', h2'⟩ := h'
  refine ⟨fun o i v H Q => r o i v H Q ∨ r' o i v H Q, ?_, fun ρ H eh o i x a b c Q hr ho hi hx h => ?_⟩
  · intro pins s σ H o i v ov iv u Q I ro ri rv q
    rcases q with q | q
    · exact h1 pins s σ H o i v ov iv u Q I ro ri rv q
    · exact h1' pins s σ H o i v ov iv u Q I ro ri rv q
  · rcases wr_or h with h | h
    · exact .inl (h2 ρ H eh o i x a b c Q hr ho hi hx h)
    · exact .inr (h2' ρ H eh o i x a b c Q hr ho hi hx h)
def mApp : EV → DL := fun x xs h => match x, xs with
  | .ref n, [y] => match mutAt h n with
    | some ys => if ys.length < 100000 then .ok .non (h.set n (.lst (ys ++ [y]))) else .no
    | none => .no
  | _, _ => .no
theorem m_app : Mtd X ct E "list.append" mApp := ⟨_, mt_append, fun ρ H eh x a xs as Q hr hx hxs h => by
  unfold mApp at h
  split at h
  · rename_i n y
    split at h
    · rename_i ys e1
      split at h
      · rename_i hl
        obtain ⟨a1, vs, g1, g2, g3, g4⟩ := mut_of hr e1
        obtain ⟨a', q1, rfl⟩ := vr_ref.mp hx
        rw [g1] at q1; cases q1
        obtain ⟨v, rfl, hv⟩ := vrs_one hxs
        obtain ⟨e, hr'⟩ := put_lst hr g4 g2 (g3.append (VRs.one hv))
        exact ⟨a1, vs, v, rfl, rfl, g2, by rw [← g3.length]; exact Nat.lt_of_lt_of_le hl (by decide), h ρ _ _ e hr' (vr_non.mpr rfl)⟩
      · exact h.elim
    · exact h.elim
  · exact h.elim⟩
def dBM (f : EV → DL) (o : DE) (a : DA) : DE := fun es h => (o es h).bind fun x h1 => match x with
  | .ref n => match lstAt h1 n with
    | some _ => (a es h1).bind fun xs h2 => f x xs h2
    | none => .no
  | _ => .no
theorem snd_bmL {r : V → List V → Hp → VK → Prop} {f : EV → DL} {to : TE} {ta : TA} {o : DE} {a : DA} (hr : SndM G E r f) (ho : SndE G E to o) (ha : SndA G E ta a) : SndE G E (tBM G.K "list" r to ta) (dBM f o a) := fun ρ σ H es eh Q rel h => by
  refine ho.bind rel h fun ρ1 H1 x eh1 u e1 rel1 v1 h1 => ?_
  cases x with
  | ref n =>
    simp only at h1
    split at h1
    · rename_i ys e2
      obtain ⟨a1, vs, g1, g2, g3⟩ := lst_of rel1.hr e2
      obtain ⟨a', q1, rfl⟩ := vr_ref.mp v1
      rw [g1] at q1; cases q1
      refine ⟨.inl ⟨rfl, vs, g2⟩, ha.bind rel1 h1 fun ρ2 H2 xs eh2 us e2 rel2 v2 h2 => ?_⟩
      exact hr ρ2 H2 eh2 _ _ xs us Q rel2.hr (v1.mono e2) v2 h2
    · exact h1.elim
  | _ => exact h1.elim
variable {a b c e : Expr} {es rest : List Expr} {pos : Pos} {da db dc : DE} {dt du : DT} {dr : DA} {ds ds' : DS} {st : Stmt} {sts sts' : List Stmt}
theorem xss_nil : PSsd X ct E [] dNext := ⟨_, pss_nil, snd_next⟩
theorem xss_cons (h1 : PSd X ct E st ds) (h2 : PSsd X ct E sts ds') : PSsd X ct E (st :: sts) (dSeq ds ds') := by
  obtain ⟨t, a1, a2⟩ := h1
  obtain ⟨u, b1, b2⟩ := h2
  exact ⟨_, pss_cons a1 b1, snd_seq a2 b2⟩
theorem xss_one (h1 : PSd X ct E st ds) : PSsd X ct E [st] ds := by
  obtain ⟨t, a1, a2⟩ := h1
  exact ⟨_, pss_one a1, a2⟩
theorem xs_pass : PSd X ct E (.Pass pos) dNext := ⟨_, ps_pass, snd_next⟩
theorem xs_break : PSd X ct E (.Break pos) dBreak := ⟨_, ps_break, snd_break⟩
theorem xs_cont : PSd X ct E (.Continue pos) dCont := ⟨_, ps_continue, snd_cont⟩
theorem xs_never : PSd X ct E st dNever := ⟨_, ps_never, snd_never⟩
theorem xss_never : PSsd X ct E sts dNever := ⟨_, pss_never, snd_never⟩
theorem xs_expr (he : PEd X ct E e da) (hs : swapsWith e none pos.line X.env = pure false := by rfl) : PSd X ct E (.Expr e pos) (dDrop da) := by
  obtain ⟨t, a1, a2⟩ := he
  exact ⟨_, ps_expr a1 hs, snd_drop a2⟩
theorem xs_ret (he : PEd X ct E e da) : PSd X ct E (.Return (some e) pos) (dRet da) := by
  obtain ⟨t, a1, a2⟩ := he
  exact ⟨_, ps_ret a1, snd_ret a2⟩
theorem xs_retN : PSd X ct E (.Return none pos) dRetN := ⟨_, ps_retN, snd_retN⟩
theorem xs_if (hc : PTd X ct E c dt) (ha : PSsd X ct E sts ds) (hb : PSsd X ct E sts' ds') : PSd X ct E (.If c sts sts' pos) (dIfS dt ds ds') := by
  obtain ⟨t, a1, a2⟩ := hc
  obtain ⟨u, b1, b2⟩ := ha
  obtain ⟨w, c1, c2⟩ := hb
  exact ⟨_, ps_if a1 b1 c1, snd_ifS a2 b2 c2⟩
theorem xg_name (i : Nat) {x : Str} (hN : X.N.Nodup) (hi : X.N[i]? = some x := by rfl) (hx : Loc X.env.scope x := by first | exact Or.inl rfl | exact Or.inr rfl) (hf : X.fn x = true ∨ X.env.scope.names.lookup x = some .local := by first | exact .inl rfl | exact .inr rfl | assumption) : PGd X ct E (.Name x pos) (dName i) :=
  ⟨_, pg_name hN hi hx hf, snd_gname⟩
theorem xgs_nil : PGsd X ct E [] dGNil := ⟨_, pgs_nil, snd_gnil⟩
theorem xgs_cons {d : DG} {d' : DGs} (h1 : PGd X ct E e d) (h2 : PGsd X ct E es d') (hs : (assignEach (e :: es) X.env).map (·.2) = assign e X.env :: (assignEach es X.env).map (·.2) := by rfl) : PGsd X ct E (e :: es) (dGCons d d') := by
  obtain ⟨t, a1, a2⟩ := h1
  obtain ⟨u, b1, b2⟩ := h2
  exact ⟨_, pgs_cons a1 b1 hs, snd_gcons a2 b2⟩
theorem xg_tup {k n : Nat} {d' : DGs} (hc : X.calm = true) (h : PGsd X ct E es d') (hn : (assignEach es X.env).length = n := by rfl) (hst : (assignEach es X.env).findIdx? (·.1) = none := by rfl) : PGd X ct E (.Tuple es k pos) (dGTup n d') := by
  obtain ⟨t, a1, a2⟩ := h
  exact ⟨_, pg_tup hc a1 hn hst, snd_gtup a2⟩
theorem xg_sub {f : DSet} (ha : PEd X ct E a da) (hb : PEd X ct E b db) (hf : PSetd X ct E f) (hh : ∀ v, assign (.Subscript a b pos) X.env v = (do
      let ov ← holding [v] (eval a X.env)
      let iv ← holding [v, ov] (eval b X.env)
      standAt pos
      holding [v, ov, iv] (setItem ov iv v)
      release [v, ov, iv] []) := by intro _; rfl) : PGd X ct E (.Subscript a b pos) (dGSub da db f) := by
  obtain ⟨t, a1, a2⟩ := ha
  obtain ⟨u, b1, b2⟩ := hb
  obtain ⟨w, c1, c2⟩ := hf
  exact ⟨_, pg_sub a1 b1 c1 hh, snd_gsub a2 b2 c2⟩
theorem xs_asg {tg : Expr} {d : DG} (he : PEd X ct E e da) (hg : PGd X ct E tg d) (hs : swapsWithSole [tg] e pos.line X.env = pure false := by rfl) (hw : swappedStores [tg] e X.env = pure none := by rfl)
    (h1 : (assignEach [tg] X.env).map (·.2) = [assign tg X.env] := by rfl) : PSd X ct E (.Assign [tg] e pos) (dAsg da d) := by
  obtain ⟨t, a1, a2⟩ := he
  obtain ⟨u, b1, b2⟩ := hg
  exact ⟨_, ps_asg a1 b1 hs hw h1, snd_asg a2 b2⟩
theorem xs_set (i : Nat) {x : Str} {pos' : Pos} (hN : X.N.Nodup) (he : PEd X ct E e da) (hi : X.N[i]? = some x := by rfl) (hx : Loc X.env.scope x := by first | exact Or.inl rfl | exact Or.inr rfl) (hs : swapsWith e (some (.Name x pos')) pos.line X.env = pure false := by rfl)
    (hf : X.fn x = true ∨ X.env.scope.names.lookup x = some .local := by first | exact .inl rfl | exact .inr rfl | assumption) : PSd X ct E (.Assign [.Name x pos'] e pos) (dAsg da (dName i)) := by
  obtain ⟨t, a1, a2⟩ := he
  exact ⟨_, ps_set hN hi hx a1 hs hf, snd_asg a2 snd_gname⟩
theorem xs_par (i j : Nat) {x y : Str} {px py pt : Pos} {kt k2 pt2} (hc : X.calm = true) (hN : X.N.Nodup) (ha : PAd X ct E [a, b] dr) (hw : swappedStores [.Tuple [.Name x px, .Name y py] kt pt] (.Tuple [a, b] k2 pt2) X.env = pure (some [x, y]))
    (hi : X.N[i]? = some x := by rfl) (hj : X.N[j]? = some y := by rfl) (hij : i ≠ j := by decide) (hx : X.env.scope.names.lookup x = some .local := by rfl) (hy : X.env.scope.names.lookup y = some .local := by rfl)
    (hs : swapsWithSole [.Tuple [.Name x px, .Name y py] kt pt] (.Tuple [a, b] k2 pt2) pos.line X.env = pure false := by rfl) : PSd X ct E (.Assign [.Tuple [.Name x px, .Name y py] kt pt] (.Tuple [a, b] k2 pt2) pos) (dPar i j dr) := by
  obtain ⟨t, a1, a2⟩ := ha
  exact ⟨_, ps_par hc hN hi hj hij hx hy a1 hw hs, snd_par a2⟩
theorem xs_aug (i : Nat) {x : Str} {op : Operator} {f : D2} {pos' : Pos} (hN : X.N.Nodup) (he : PEd X ct E e da) (ho : Opd X ct E (inplaceOp op) f) (hi : X.N[i]? = some x := by rfl) (hx : Loc X.env.scope x := by first | exact Or.inl rfl | exact Or.inr rfl)
    (hf : X.fn x = true ∨ X.env.scope.names.lookup x = some .local := by first | exact .inl rfl | exact .inr rfl | assumption) : PSd X ct E (.AugAssign (.Name x pos') op e pos) (dAug i da f) := by
  obtain ⟨t, a1, a2⟩ := he
  obtain ⟨r, b1, b2⟩ := ho
  exact ⟨_, ps_aug hN hi hx a1 b1 hf, snd_aug a2 b2⟩
theorem o_iadd : Opd X ct E (inplaceOp .Add) fAddI := ⟨_, iop_add, snd_I0 fun _ _ _ _ => vr_int.mpr rfl⟩
theorem o_isub : Opd X ct E (inplaceOp .Sub) fSub := ⟨_, iop_sub, snd_I0 fun _ _ _ _ => vr_int.mpr rfl⟩
theorem xe_bmL {name : Str} {apos cpos : Pos} {id : String} {f : EV → DL} (pa : PlainAttrs "list") (slot : Slot "list" name id) (hty : typeOf (.builtin id) = pure (.type "method_descriptor")) (hm : Mtd X ct E id f) (ho : PEd X ct E a da) (ha : PAd X ct E (e :: es) dr)
    (hbase : attributeBase a name X.env (eval a X.env) = eval a X.env := by rfl)
    (hfew : ((backTo cpos (starEach (e :: es) X.env)).all (fun x => !x.1) && (backToKw cpos (keywordEach [] X.env)).all (fun x => x.1.isSome)
      && decide ((e :: es).length + ([] : List Keyword).length + (if ([] : List Keyword).isEmpty then 0 else 1) < 30)) = true := by rfl)
    (hline : (apos.endLine == cpos.line) = true := by rfl) (hs : starEach (e :: es) X.env = (false, eval e X.env) :: starEach es X.env := by rfl) (hplain : (backTo cpos (starEach es X.env)).any (·.1) = false := by rfl) :
    PEd X ct E (.Call (.Attribute a name apos) (e :: es) [] cpos) (dBM f da dr) := by
  obtain ⟨r, m1, m2⟩ := hm
  obtain ⟨t, a1, a2⟩ := ho
  obtain ⟨u, b1, b2⟩ := ha
  exact ⟨_, pe_bm pa slot hty m1 a1 b1 hbase hfew hline hs hplain, snd_bmL m2 a2 b2⟩
theorem xe_append {apos cpos : Pos} (ho : PEd X ct E a da) (ha : PAd X ct E [e] dr)
    (hbase : attributeBase a "append" X.env (eval a X.env) = eval a X.env := by rfl)
    (hfew : ((backTo cpos (starEach [e] X.env)).all (fun x => !x.1) && (backToKw cpos (keywordEach [] X.env)).all (fun x => x.1.isSome)
      && decide ([e].length + ([] : List Keyword).length + (if ([] : List Keyword).isEmpty then 0 else 1) < 30)) = true := by rfl)
    (hline : (apos.endLine == cpos.line) = true := by rfl) (hs : starEach [e] X.env = (false, eval e X.env) :: starEach [] X.env := by rfl) (hplain : (backTo cpos (starEach [] X.env)).any (·.1) = false := by rfl) :
    PEd X ct E (.Call (.Attribute a "append" apos) [e] [] cpos) (dBM mApp da dr) := xe_bmL PySem.F.plainAttrs_list PySem.F.slot_list_append PySem.F.type_list_append m_app ho ha hbase hfew hline hs hplain
end
structure Wlk where
  src : Option Nat
  xs : List EV
  tl : Nat → EV → EV
def Wlk.cur (it : Wlk) (h : EH) : Option (List EV) := match it.src with
  | none => some it.xs
  | some n => lstAt h n
def JR (G : Gx) (ρ0 : Rho) (H0 : Hp) (it : Wlk) (J : It) : Prop := ∀ ρ H eh xs, Ext G.K ρ0 ρ H0 H → HR G ρ H eh → it.cur eh = some xs →
  (∀ (i : Nat) (x : EV), xs[i]? = some x → J.go i H ∧ ∀ y H', J.yld i H y H' → Ext G.K ρ ρ H H' ∧ HR G ρ H' eh ∧ VR G.K ρ H' (it.tl i x) y) ∧ (∀ (i : Nat), xs[i]? = none → J.stop i H)
abbrev DI := ES → EH → Res Wlk
abbrev SndI (G : Gx) (E : XK) (t : TI) (d : DI) : Prop := Sound G E (JR G) t d
def forGo (it : Wlk) (g : DG) (b : DS) : Nat → Nat → DS
  | 0, _, _, _ => .no
  | m + 1, i, es, h => match it.cur h with
    | none => .no
    | some xs => match xs[i]? with
      | none => .ok (.nx es) h
      | some x => (g (it.tl i x) es h).bind fun es1 h1 => (b es1 h1).bind fun f h2 => match f with
        | .nx es2 => forGo it g b m (i + 1) es2 h2
        | .ct es2 => forGo it g b m (i + 1) es2 h2
        | .bk es2 => .ok (.nx es2) h2
        | .rt v => .ok (.rt v) h2
def dFor (di : DI) (g : DG) (b : DS) : DS := fun es h => (di es h).bind fun it h1 => match it.cur h1 with
  | none => .no
  | some xs => forGo it g b (xs.length + 1) 0 es h1
def dItL (a : DE) : DI := fun es h => (a es h).bind fun x h1 => match x with
  | .ref n => match lstAt h1 n with
    | some _ => .ok ⟨some n, [], fun _ x => x⟩ h1
    | none => .no
  | _ => .no
def dItT (a : DE) : DI := fun es h => (a es h).bind fun x h1 => match x with
  | .tup xs => .ok ⟨none, xs, fun _ x => x⟩ h1
  | _ => .no
def rng (lo : Int) (n : Nat) : List EV := (List.range n).map fun (i : Nat) => .int (lo + i)
def dItR1 (a : DA) : DI := fun es h => (a es h).bind fun xs h1 => match xs with
  | [.int n] => if decide (-100000 ≤ n) && decide (n ≤ 100000) = true then .ok ⟨none, rng 0 n.toNat, fun _ x => x⟩ h1 else .no
  | _ => .no
def dItR2 (a : DA) : DI := fun es h => (a es h).bind fun xs h1 => match xs with
  | [.int lo, .int n] => if decide (-100000 ≤ n) && decide (n ≤ 100000) && decide (-100000 ≤ lo) && decide (lo ≤ 100000) = true then .ok ⟨none, rng lo (n - lo).toNat, fun _ x => x⟩ h1 else .no
  | _ => .no
section
variable {X : Cx} {ct : Nat → Addr × List Str} {E : XK} {G : Gx}
theorem jr_lst {ρ : Rho} {H : Hp} {n : Nat} {a : Addr} (h : adr ρ n = some a) : JR G ρ H ⟨some n, [], fun _ x => x⟩ (Itl G.K a) := fun ρ' H' eh xs e hr hc => by
  obtain ⟨a', vs, g1, g2, g3⟩ := lst_of hr (show lstAt eh n = some xs from hc)
  rw [e.get h] at g1; cases g1
  refine ⟨fun i x hx => ?_, fun i hx => ⟨vs, g2, ?_⟩⟩
  · obtain ⟨v, h1, h2⟩ := g3.get hx
    refine ⟨⟨vs, v, g2, h1⟩, fun y H2 hy => ?_⟩
    obtain ⟨rfl, hy⟩ := hy
    have := hy vs g2
    rw [h1] at this
    cases this
    exact ⟨Ext.refl _ _ _, hr, h2⟩
  · rw [← g3.length]
    exact List.getElem?_eq_none_iff.mp hx
theorem jr_tup {ρ : Rho} {H : Hp} {a : Addr} {xs : List EV} {vs : List V} (h : H a = some (.tup vs)) (hv : VRs G.K ρ H xs vs) : JR G ρ H ⟨none, xs, fun _ x => x⟩ (Itt G.K a) := fun ρ' H' eh ys e hr hc => by
  cases hc
  have g2 := e.tup _ _ h
  have g3 := hv.mono e
  refine ⟨fun i x hx => ?_, fun i hx => ⟨vs, SqT.of g2, ?_⟩⟩
  · obtain ⟨v, h1, h2⟩ := g3.get hx
    refine ⟨⟨vs, v, SqT.of g2, h1⟩, fun y H2 hy => ?_⟩
    obtain ⟨rfl, hy⟩ := hy
    have := hy vs (SqT.of g2)
    rw [h1] at this
    cases this
    exact ⟨Ext.refl _ _ _, hr, h2⟩
  · rw [← g3.length]
    exact List.getElem?_eq_none_iff.mp hx
theorem rng_get {lo : Int} {n i : Nat} {x : EV} (h : (rng lo n)[i]? = some x) : i < n ∧ x = .int (lo + i) := by
  unfold rng at h
  rw [List.getElem?_map] at h
  obtain ⟨j, h1, rfl⟩ := Option.map_eq_some_iff.mp h
  obtain ⟨h2, h3⟩ := List.getElem?_eq_some_iff.mp h1
  simp only [List.length_range] at h2
  simp only [List.getElem_range] at h3
  subst h3
  exact ⟨h2, rfl⟩
theorem rng_len (lo : Int) (n : Nat) : (rng lo n).length = n := by simp [rng]
theorem jr_rng {ρ : Rho} {H : Hp} {lo : Int} {n : Nat} : JR G ρ H ⟨none, rng lo n, fun _ x => x⟩ (Itr lo n) := fun ρ' H' eh ys e hr hc => by
  cases hc
  refine ⟨fun i x hx => ?_, fun i hx => ?_⟩
  · obtain ⟨h1, rfl⟩ := rng_get hx
    refine ⟨h1, fun y H2 hy => ?_⟩
    obtain ⟨rfl, rfl⟩ := hy
    exact ⟨Ext.refl _ _ _, hr, vr_int.mpr rfl⟩
  · have := List.getElem?_eq_none_iff.mp hx
    rw [rng_len] at this
    exact this
theorem snd_itL {tl : TE} {a : DE} (ha : SndE G E tl a) : SndI G E (iList G.K tl) (dItL a) := fun ρ σ H es eh Q rel h => by
  refine ha.bind rel h fun ρ1 H1 x eh1 u e1 rel1 v1 h1 => ?_
  cases x with
  | ref n =>
    simp only at h1
    split at h1
    · rename_i xs e2
      obtain ⟨a1, vs, g1, g2, g3⟩ := lst_of rel1.hr e2
      obtain ⟨a', q1, rfl⟩ := vr_ref.mp v1
      rw [g1] at q1; cases q1
      exact ⟨a1, rfl, ⟨vs, g2⟩, h1 ρ1 H1 _ (Ext.refl _ _ _) rel1.hr (jr_lst g1)⟩
    · exact h1.elim
  | _ => exact h1.elim
theorem snd_itT {tl : TE} {a : DE} (ha : SndE G E tl a) : SndI G E (iTup G.K tl) (dItT a) := fun ρ σ H es eh Q rel h => by
  refine ha.bind rel h fun ρ1 H1 x eh1 u e1 rel1 v1 h1 => ?_
  cases x with
  | tup xs =>
    obtain ⟨a1, vs, rfl, g2, g3⟩ := vr_tup.mp v1
    exact ⟨a1, rfl, ⟨vs, SqT.of g2⟩, h1 ρ1 H1 _ (Ext.refl _ _ _) rel1.hr (jr_tup g2 g3)⟩
  | _ => exact h1.elim
theorem snd_itR1 {ta : TA} {a : DA} (ha : SndA G E ta a) : SndI G E (iRng1 ta) (dItR1 a) := fun ρ σ H es eh Q rel h => by
  refine ha.bind rel h fun ρ1 H1 x eh1 u e1 rel1 v1 h1 => ?_
  split at h1
  · rename_i n
    split at h1
    · rename_i hc
      simp only [Bool.and_eq_true, decide_eq_true_eq] at hc
      obtain ⟨v, rfl, hv⟩ := vrs_one v1
      rw [vr_int.mp hv]
      exact ⟨n, rfl, by omega, by omega, h1 ρ1 H1 _ (Ext.refl _ _ _) rel1.hr jr_rng⟩
    · exact h1.elim
  · exact h1.elim
theorem snd_itR2 {ta : TA} {a : DA} (ha : SndA G E ta a) : SndI G E (iRng2 ta) (dItR2 a) := fun ρ σ H es eh Q rel h => by
  refine ha.bind rel h fun ρ1 H1 x eh1 u e1 rel1 v1 h1 => ?_
  split at h1
  · rename_i lo n
    split at h1
    · rename_i hc
      simp only [Bool.and_eq_true, decide_eq_true_eq] at hc
      obtain ⟨v, w, rfl, hv, hw⟩ := vrs_two v1
      rw [vr_int.mp hv, vr_int.mp hw]
      exact ⟨lo, n, rfl, ⟨by omega, by omega, by omega, by omega⟩, h1 ρ1 H1 _ (Ext.refl _ _ _) rel1.hr jr_rng⟩
    · exact h1.elim
  · exact h1.elim
theorem snd_for {wi : TI} {g : TG} {tb : TS} {di : DI} {dg : DG} {b : DS} (hi : SndI G E wi di) (hg : SndG G E g dg) (hb : SndS G E tb b) : SndS G E (tFor wi g tb) (dFor di dg b) := fun ρ σ H es eh D rel h => by
  refine hi.bind rel h fun ρ1 H1 it eh1 J e1 rel1 jr h1 => ?_
  split at h1
  · exact h1.elim
  · rename_i xs0 _
    refine ⟨fun i m σ H => ∃ ρ' es eh, Ext G.K ρ1 ρ' H1 H ∧ Rel G ρ' σ H es eh ∧ wr G (RF G) ρ' H (forGo it dg b m i es eh) (qD D) E, ⟨_, ρ1, es, eh1, Ext.refl _ _ _, rel1, h1⟩, ?_⟩
    rintro i m σ' H' ⟨ρ', es', eh', e', rel', hw⟩
    cases m with
    | zero => exact hw.elim
    | succ m =>
      unfold forGo at hw
      split at hw
      · exact hw.elim
      · rename_i xs hxs
        obtain ⟨j1, j2⟩ := jr ρ' H' eh' xs e' rel'.hr hxs
        split at hw
        · rename_i hn
          exact .inl ⟨j2 i hn, hw ρ' H' (.nx σ') (Ext.refl _ _ _) rel'.hr rel'.sl⟩
        · rename_i x hx
          obtain ⟨go, yl⟩ := j1 i x hx
          refine .inr ⟨go, fun σ2 H2 => ∃ ρ2 es2 eh2, Ext G.K ρ1 ρ2 H1 H2 ∧ Rel G ρ2 σ2 H2 es2 eh2 ∧ wr G (RF G) ρ2 H2 (forGo it dg b m (i + 1) es2 eh2) (qD D) E, fun σ2 H2 q => ⟨m, Nat.lt_succ_self m, q⟩, fun y H3 hy => ?_⟩
          obtain ⟨e3, hr3, v3⟩ := yl y H3 hy
          refine hg.bind (rel'.ext e3 hr3) v3 (hw.mono e3) fun ρ4 H4 es4 eh4 σ4 e4 rel4 _ h4 => ?_
          refine hb.bind rel4 h4 fun ρ5 H5 f eh5 vf e5 hr5 rf h5 => ?_
          have et := ((e'.trans e3).trans e4).trans e5
          cases f with
          | nx es5 =>
            cases vf with
            | nx σ5 => exact ⟨ρ5, es5, eh5, et, ⟨rf, hr5⟩, h5⟩
            | _ => exact rf.elim
          | ct es5 =>
            cases vf with
            | ct σ5 => exact ⟨ρ5, es5, eh5, et, ⟨rf, hr5⟩, h5⟩
            | _ => exact rf.elim
          | bk es5 =>
            cases vf with
            | bk σ5 => exact h5 ρ5 H5 (.nx σ5) (Ext.refl _ _ _) hr5 rf
            | _ => exact rf.elim
          | rt v =>
            cases vf with
            | rt w => exact h5 ρ5 H5 (.rt w) (Ext.refl _ _ _) hr5 rf
            | _ => exact rf.elim
def PId (X : Cx) (ct : Nat → Addr × List Str) (E : XK) (tg iter : Expr) (d : DI) : Prop := ∃ t, PI X tg iter t ∧ SndI ⟨X.K, ct⟩ E t d
variable {tg iter a b : Expr} {da db : DE} {dr : DA} {di : DI} {dg : DG} {ds : DS} {body : List Stmt} {pos p : Pos}
theorem xi_list (h : PEd X ct E a da) : PId X ct E tg a (dItL da) := by
  obtain ⟨t, h1, h2⟩ := h
  exact ⟨_, pi_list h1, snd_itL h2⟩
theorem xi_tup (h : PEd X ct E a da) : PId X ct E tg a (dItT da) := by
  obtain ⟨t, h1, h2⟩ := h
  exact ⟨_, pi_tup h1, snd_itT h2⟩
theorem xi_rng1 (hg : Gl X "range") (hm : X.mg "range" = none) (ha : PAd X ct E [a] dr) (hs : starEach [a] X.env = [(false, eval a X.env)] := by rfl) : PId X ct E tg (.Call (.Name "range" p) [a] [] pos) (dItR1 dr) := by
  obtain ⟨t, h1, h2⟩ := ha
  exact ⟨_, pi_range1 hg hm h1 hs, snd_itR1 h2⟩
theorem xi_rng2 (hg : Gl X "range") (hm : X.mg "range" = none) (ha : PAd X ct E [a, b] dr) (hs : starEach [a, b] X.env = [(false, eval a X.env), (false, eval b X.env)] := by rfl) (hs2 : starEach [b] X.env = [(false, eval b X.env)] := by rfl) :
    PId X ct E tg (.Call (.Name "range" p) [a, b] [] pos) (dItR2 dr) := by
  obtain ⟨t, h1, h2⟩ := ha
  exact ⟨_, pi_range2 hg hm h1 hs hs2, snd_itR2 h2⟩
theorem xs_for (hp : PassesOwn (model X.prog X.w) X.A X.env X.xe) (hc : X.calm = true) (hi : PId X ct E tg iter di) (hg : PGd X ct E tg dg) (hb : PSsd X ct E body ds)
    (hs : ∀ x, foldedSetIterable iter X.env x = pure x := by intro _; rfl) : PSd X ct E (.For tg iter body [] pos) (dFor di dg ds) := by
  obtain ⟨t, a1, a2⟩ := hi
  obtain ⟨u, b1, b2⟩ := hg
  obtain ⟨w, c1, c2⟩ := hb
  exact ⟨_, ps_for hp hc a1 b1 c1 hs, snd_for a2 b2 c2⟩
end
def lcGo (it : Wlk) (g : DG) (t : DT) (e : DE) (vs : List Nat) : Nat → Nat → List EV → ES → EH → Res (List EV)
  | 0, _, _, _, _ => .no
  | m + 1, i, acc, es, h => match it.cur h with
    | none => .no
    | some xs => match xs[i]? with
      | none => .ok acc h
      | some x => (g (it.tl i x) (wip es vs) h).bind fun es1 h1 => (t es1 h1).bind fun b h2 => if b = true then (e es1 h2).bind fun y h3 => (if acc.length < 50000 then lcGo it g t e vs m (i + 1) (acc ++ [y]) es h3 else .no) else lcGo it g t e vs m (i + 1) acc es h2
def dLc (di : DI) (g : DG) (t : DT) (e : DE) (vs : List Nat) : DE := fun es h => (di es h).bind fun it h1 => match it.cur h1 with
  | none => .no
  | some xs => (lcGo it g t e vs (xs.length + 1) 0 [] es h1).bind fun ys h2 => .ok (.ref h2.length) (h2 ++ [.lst ys])
def OnlyIn (g : TG) (vs : List Nat) : Prop := ∀ (τ : L2.St) (v : V) (σ : L2.St) (H : Hp) (Q Q' : L2.St → Hp → Prop), wipe σ vs = τ → (∀ σ2 H2, wipe σ2 vs = τ → Q σ2 H2 → Q' σ2 H2) → g v σ H Q → g v σ H Q'
def OnlyIns (g : TGs) (vs : List Nat) : Prop := ∀ (τ : L2.St) (v : List V) (σ : L2.St) (H : Hp) (Q Q' : L2.St → Hp → Prop), wipe σ vs = τ → (∀ σ2 H2, wipe σ2 vs = τ → Q σ2 H2 → Q' σ2 H2) → g v σ H Q → g v σ H Q'
theorem wipe_set {σ : L2.St} {i : Nat} {x : Option V} : ∀ {vs : List Nat}, i ∈ vs → wipe (σ.set i x) vs = wipe σ vs := by
  have comm : ∀ (vs : List Nat) (σ : L2.St) (i : Nat), i ∉ vs → ∀ x, wipe (σ.set i x) vs = (wipe σ vs).set i x := by
    intro vs
    induction vs with
    | nil => intro σ i _ x; rfl
    | cons v vs ih =>
      intro σ i hi x
      simp only [List.mem_cons, not_or] at hi
      show (wipe (σ.set i x) vs).set v none = ((wipe σ vs).set v none).set i x
      rw [ih σ i hi.2 x, List.set_comm _ _ hi.1]
  intro vs hi
  induction vs with
  | nil => cases hi
  | cons v vs ih =>
    show (wipe (σ.set i x) vs).set v none = (wipe σ vs).set v none
    by_cases h : i ∈ vs
    · rw [ih h]
    · have e : i = v := by
        rcases List.mem_cons.mp hi with e | e
        · exact e
        · exact absurd e h
      subst e
      rw [comm vs σ i h x, List.set_set]
theorem wipe_wipe {σ : L2.St} : ∀ vs : List Nat, wipe (wipe σ vs) vs = wipe σ vs := by
  have key : ∀ (ws vs : List Nat), (∀ v ∈ ws, v ∈ vs) → wipe (wipe σ ws) vs = wipe σ vs := by
    intro ws
    induction ws with
    | nil => intro vs _; rfl
    | cons w ws ih =>
      intro vs h
      show wipe ((wipe σ ws).set w none) vs = wipe σ vs
      rw [wipe_set (h w List.mem_cons_self)]
      exact ih vs fun v hv => h v (List.mem_cons_of_mem _ hv)
  exact fun vs => key vs vs fun _ h => h
theorem only_name {i : Nat} {vs : List Nat} (h : i ∈ vs) : OnlyIn (gName i) vs := fun τ v σ H Q Q' hw hq q => hq _ _ ((wipe_set h).trans hw) q
theorem only_nil {vs : List Nat} : OnlyIns gNil vs := fun τ v σ H Q Q' hw hq q => ⟨q.1, hq _ _ hw q.2⟩
theorem only_cons {g : TG} {u : TGs} {vs : List Nat} (h : OnlyIn g vs) (hu : OnlyIns u vs) : OnlyIns (gCons g u) vs := fun τ xs σ H Q Q' hw hq q => by
  obtain ⟨v, r, e, q⟩ := q
  exact ⟨v, r, e, h τ v σ H _ _ hw (fun σ1 H1 w1 q1 => hu τ r σ1 H1 Q Q' w1 hq q1) q⟩
theorem only_tup {K : Fg} {n : Nat} {u : TGs} {vs : List Nat} (hu : OnlyIns u vs) : OnlyIn (gTup K n u) vs := fun τ v σ H Q Q' hw hq q => by
  obtain ⟨a, xs, e, h1, hl, q⟩ := q
  exact ⟨a, xs, e, h1, hl, hu τ xs σ H Q Q' hw hq q⟩
section
variable {X : Cx} {ct : Nat → Addr × List Str} {E : XK} {G : Gx}
theorem SR.bare {K : Fg} {ρ : Rho} {H H' : Hp} {es : ES} {σ : L2.St} (e : Ext0 K ρ ρ H H') (h : SR K ρ H es σ) : SR K ρ H' es σ := ⟨h.1, fun i v hv => by
  obtain ⟨u, h1, h2⟩ := h.2 i v hv
  exact ⟨u, h1, VR.mono0 e _ _ h2⟩⟩
theorem ext0_upd {K : Fg} {ρ : Rho} {H : Hp} {p : Addr} {xs : List V} {u : HO} (h : H p = some (.lst xs)) : Ext0 K ρ ρ H (upd H p u) where
  pre := ⟨[], by simp⟩
  tup := fun a ys q => by
    rw [upd_ne]
    · exact q
    · intro z
      subst z
      rw [h] at q
      cases q
  frz := fun a o v q => by
    rw [upd_ne]
    · exact q
    · intro z
      subst z
      rw [h] at q
      cases q
theorem snd_lc {wi : TI} {g : TG} {tt : TT} {te : TE} {vs : List Nat} {di : DI} {dg : DG} {dt : DT} {de : DE} (hi : SndI G E wi di) (hg : SndG G E g dg) (ho : OnlyIn g vs) (ht : SndT G E tt dt) (he : SndE G E te de) : SndE G E (tLc wi g tt te vs) (dLc di dg dt de vs) := fun ρ σ H es eh Q rel h => by
  refine hi.bind rel h fun ρ1 H1 it eh1 J e1 rel1 jr h1 => ?_
  split at h1
  · exact h1.elim
  · rename_i xs0 _
    intro Dl hD
    refine ⟨fun i m H => ∃ ρ' eh acc us, Ext G.K ρ1 ρ' H1 H ∧ HR G ρ' H eh ∧ (true, Dl) ∉ ρ' ∧ H Dl = some (.lst us) ∧ VRs G.K ρ' H acc us ∧
      wr G (VR G.K) ρ1 H1 ((lcGo it dg dt de vs m i acc es eh).bind fun ys h2 => .ok (.ref h2.length) (h2 ++ [.lst ys])) Q E,
      ⟨_, ρ1, eh1, [], [], Ext.side _ hD, rel1.hr.side _ hD, rel1.hr.fresh hD, upd_same, vrs_nil.mpr rfl, h1⟩, ?_⟩
    rintro i m H' ⟨ρ', eh', acc, us, e', hr', hn, hDl, hacc, hw⟩
    cases m with
    | zero => exact hw.elim
    | succ m =>
      unfold lcGo at hw
      split at hw
      · exact hw.elim
      · rename_i xs hxs
        obtain ⟨j1, j2⟩ := jr ρ' H' eh' xs e' hr' hxs
        split at hw
        · rename_i hnone
          refine .inl ⟨j2 i hnone, ?_⟩
          have e5 := e'.push hD
          have e0 : Ext0 G.K ρ' (ρ' ++ [(true, Dl)]) H' H' := ⟨⟨[(true, Dl)], rfl⟩, fun _ _ q => q, fun _ _ _ q => q⟩
          exact hw (ρ' ++ [(true, Dl)]) H' _ e5 (hr'.push hn rfl ⟨us, hDl, VRs.mono0 e0 _ _ hacc⟩) (vr_ref.mpr ⟨Dl, last_get hr'.len, rfl⟩)
        · rename_i x hx
          obtain ⟨go, yl⟩ := j1 i x hx
          refine .inr ⟨go, fun H2 => ∃ ρ2 eh2 acc2 us2, Ext G.K ρ1 ρ2 H1 H2 ∧ HR G ρ2 H2 eh2 ∧ (true, Dl) ∉ ρ2 ∧ H2 Dl = some (.lst us2) ∧ VRs G.K ρ2 H2 acc2 us2 ∧
            wr G (VR G.K) ρ1 H1 ((lcGo it dg dt de vs m (i + 1) acc2 es eh2).bind fun ys h2 => .ok (.ref h2.length) (h2 ++ [.lst ys])) Q E, fun H2 q => ⟨m, Nat.lt_succ_self m, q⟩, fun y H3 hy => ?_⟩
          obtain ⟨e3, hr3, v3⟩ := yl y H3 hy
          have keepD : ∀ {ρa ρb : Rho} {Ha Hb : Hp} {vs : List V}, Ext G.K ρa ρb Ha Hb → (true, Dl) ∉ ρa → Ha Dl = some (.lst vs) → (true, Dl) ∉ ρb ∧ Hb Dl = some (.lst vs) := fun e hn h => by
            refine ⟨fun hm => ?_, e.rest _ _ h hn⟩
            rcases e.new _ hm with z | z
            · exact hn z
            · rw [h] at z; cases z
          have d3 := keepD e3 hn hDl
          have sr : SR G.K ρ' H3 (wip es vs) (wipe σ vs) := ((rel1.sl.mono e').mono e3).wip vs
          have en : Ext G.K ρ1 ρ' H1 H3 := e'.trans e3
          refine ho (wipe σ vs) y (wipe σ vs) H3 (fun σ2 H2 => tt σ2 H2 fun b H3 =>
              if b = true then te σ2 H3 fun y H4 => ∃ acc, H4 Dl = some (.lst acc) ∧ acc.length < sizeLine ∧ (∃ ρ2 eh2 acc2 us2, Ext G.K ρ1 ρ2 H1 (upd H4 Dl (.lst (acc ++ [y]))) ∧ HR G ρ2 (upd H4 Dl (.lst (acc ++ [y]))) eh2 ∧ (true, Dl) ∉ ρ2 ∧ (upd H4 Dl (.lst (acc ++ [y]))) Dl = some (.lst us2) ∧ VRs G.K ρ2 (upd H4 Dl (.lst (acc ++ [y]))) acc2 us2 ∧
                wr G (VR G.K) ρ1 H1 ((lcGo it dg dt de vs m (i + 1) acc2 es eh2).bind fun ys h2 => .ok (.ref h2.length) (h2 ++ [.lst ys])) Q E)
              else ∃ ρ2 eh2 acc2 us2, Ext G.K ρ1 ρ2 H1 H3 ∧ HR G ρ2 H3 eh2 ∧ (true, Dl) ∉ ρ2 ∧ H3 Dl = some (.lst us2) ∧ VRs G.K ρ2 H3 acc2 us2 ∧
                wr G (VR G.K) ρ1 H1 ((lcGo it dg dt de vs m (i + 1) acc2 es eh2).bind fun ys h2 => .ok (.ref h2.length) (h2 ++ [.lst ys])) Q E) _ (wipe_wipe vs) (fun σ2 H2 w q => ⟨w, q⟩) ?_
          refine hg ρ' (wipe σ vs) H3 (wip es vs) eh' (it.tl i x) y _ ⟨sr, hr3⟩ v3 ?_
          · skip
            cases qg : dg (it.tl i x) (wip es vs) eh' with
            | no =>
              rw [qg] at hw
              exact hw
            | er z h' =>
              rw [qg] at hw
              exact fun ρ' H' c own e' hr q => hw ρ' H' c own (en.trans e') hr q
            | ok es4 eh4 =>
              rw [qg] at hw
              intro ρ4 H4 σ4 e4 hr4 sr4
              have d4 := keepD e4 d3.1 d3.2
              have hw4 : wr G (VR G.K) ρ1 H1 ((dt es4 eh4).bind fun b h2 => (if b = true then (de es4 h2).bind fun y h3 => (if acc.length < 50000 then lcGo it dg dt de vs m (i + 1) (acc ++ [y]) es h3 else .no) else lcGo it dg dt de vs m (i + 1) acc es h2).bind fun ys h2 => .ok (.ref h2.length) (h2 ++ [.lst ys])) Q E := by
                have hw' := hw
                simp only [bind_ok] at hw'
                cases qt : dt es4 eh4 with
                | ok b h2 => rw [qt] at hw'; exact hw'
                | er z h2 => rw [qt] at hw'; exact hw'
                | no => rw [qt] at hw'; exact hw'
              refine ht.bind0 ⟨sr4, hr4⟩ (en.trans e4) hw4 fun ρ5 H5 b eh5 b' e5 rel5 v5 h5 => ?_
              subst v5
              have d5 := keepD e5 d4.1 d4.2
              have e15 := (en.trans e4).trans e5
              cases b with
              | false =>
                refine iteF ⟨ρ5, eh5, acc, us, e15, rel5.hr, d5.1, d5.2, ((hacc.mono e3).mono e4).mono e5, h5⟩
              | true =>
                have h5' : wr G (VR G.K) ρ1 H1 ((de es4 eh5).bind fun y h3 => (if acc.length < 50000 then lcGo it dg dt de vs m (i + 1) (acc ++ [y]) es h3 else .no).bind fun ys h2 => .ok (.ref h2.length) (h2 ++ [.lst ys])) Q E := by
                  have hw' := h5
                  simp only [if_true] at hw'
                  cases qt : de es4 eh5 with
                  | ok b h2 => rw [qt] at hw'; exact hw'
                  | er z h2 => rw [qt] at hw'; exact hw'
                  | no => rw [qt] at hw'; exact hw'
                refine iteT (he.bind0 rel5 e15 h5' fun ρ6 H6 y6 eh6 u6 e6 rel6 v6 h6 => ?_)
                have d6 := keepD e6 d5.1 d5.2
                have hacc6 := (((hacc.mono e3).mono e4).mono e5).mono e6
                split at h6
                · rename_i hl
                  have em : Ext G.K ρ1 ρ6 H1 (upd H6 Dl (.lst (us ++ [u6]))) := (e15.trans e6).mut hD
                  have eb : Ext0 G.K ρ6 ρ6 H6 (upd H6 Dl (.lst (us ++ [u6]))) := ext0_upd d6.2
                  refine ⟨us, d6.2, ?_, ρ6, eh6, acc ++ [y6], us ++ [u6], em, rel6.hr.ext eb fun a ha => upd_ne fun z => d6.1 (z ▸ ha), d6.1, upd_same, VRs.mono0 eb _ _ (hacc6.append (VRs.one v6)), h6⟩
                  rw [← hacc6.length]
                  exact Nat.lt_of_lt_of_le hl (by decide)
                · exact h6.elim
end
end EE
set_option Elab.async false
set_option linter.all false
set_option maxRecDepth 100000
set_option maxHeartbeats 1000000
namespace EE
open PySem PySem.Spec PyProof.Rows L2
def Res.noer {α : Type} (r : Res α) : Res α := match r with
  | .er _ _ => .no
  | z => z
@[simp] theorem noer_ok {α : Type} (v : α) (h : EH) : (Res.ok v h).noer = .ok v h := rfl
@[simp] theorem noer_no {α : Type} : (Res.no : Res α).noer = .no := rfl
def dDef (np N : Nat) (b : DS) : DL := fun args h => if args.length = np then (b (args.map some ++ List.replicate (N - args.length) none) h).bind fun f h1 => match f with
  | .nx _ => .ok .non h1
  | .rt v => .ok v h1
  | .bk _ => .no
  | .ct _ => .no
  else .no
def dCall (f : DL) (a : DA) : DE := fun es h => (a es h).bind fun xs h1 => (f xs h1).noer
def spD0 (G : Gx) (f : DL) : Sp := fun vs H Q _ => ∃ ρ xs eh, VRs G.K ρ H xs vs ∧ HR G ρ H eh ∧ wr G (VR G.K) ρ H (f xs eh) Q E0
theorem wr_noer {α β : Type} {G : Gx} {R : Rho → Hp → α → β → Prop} {ρ : Rho} {H : Hp} {r : Res α} {Q : β → Hp → Prop} {E E' : XK} (h : wr G R ρ H r.noer Q E) : wr G R ρ H r Q E' := by
  cases r with
  | ok v h' => exact h
  | er x h' => exact h.elim
  | no => exact h
theorem sr_start {K : Fg} {ρ : Rho} {H : Hp} {xs : List EV} {vs : List V} (N : List Str) (h : VRs K ρ H xs vs) : SR K ρ H (xs.map some ++ List.replicate (N.length - xs.length) none) (L2.start N vs) := by
  have hl := h.length
  refine ⟨by simp [L2.start, hl], fun i v hv => ?_⟩
  unfold L2.start
  by_cases hi : i < xs.length
  · rw [List.getElem?_append_left (by simpa using hi), List.getElem?_map] at hv
    obtain ⟨y, h1, h2⟩ := Option.map_eq_some_iff.mp hv
    cases h2
    obtain ⟨u, h3, h4⟩ := h.get h1
    refine ⟨u, ?_, h4⟩
    rw [List.getElem?_append_left (by rw [List.length_map, ← hl]; exact hi), List.getElem?_map, h3]
    rfl
  · rw [List.getElem?_append_right (by simpa using hi)] at hv
    rw [List.getElem?_replicate] at hv
    split at hv
    · cases hv
    · cases hv
section
variable {P : Program} {w : World} {K : Fg} {mg : Str → Option Value} {base : Heap} {ct : Nat → Addr × List Str}
theorem fn_d {x qual : Str} {st : Stmt} {f : Addr} {fd : FuncData} {N ps : List Str} {k : Nat} {d : DS} (F : Fun K x qual st f fd) (S : FnScope N ps (defScope st))
    (h : ∀ (cdv : Value) (A : Around) (outer : List Env) (s : Shared) (H : Hp) (E : XK), Room k (A.deeper (envOfC qual (defScope st) s.heap.objs.size f cdv)) → PSsd (cxOf CX0 P w K mg base N qual (defScope st) f cdv A outer s H E).nox ct E0 (defBody st) d) :
    FnOk P w K mg base CX0 (k + 1) f fd ps (spD0 ⟨K, ct⟩ (dDef ps.length N.length d)) := by
  refine F.ok S (fun vs H Q E hs => ?_) fun cdv A outer s H vs Q E hr hs => ?_
  · obtain ⟨ρ, xs, eh, h1, h2, h3⟩ := hs
    rw [← h1.length]
    unfold dDef at h3
    split at h3
    · assumption
    · exact h3.elim
  · obtain ⟨ρ, xs, eh, h1, h2, h3⟩ := hs
    obtain ⟨t, b1, b2⟩ := h cdv A outer s H E hr
    refine ⟨t, b1, b2 ρ (L2.start N vs) H _ eh _ ⟨sr_start N h1, h2⟩ ?_⟩
    unfold dDef at h3
    split at h3
    · cases q : d (xs.map some ++ List.replicate (N.length - xs.length) none) eh with
      | no => rw [q] at h3; exact h3
      | er z h' => rw [q] at h3; exact h3
      | ok fl h' =>
        rw [q] at h3
        intro ρ' H' vf e hr' rf
        cases fl with
        | nx es' =>
          cases vf with
          | nx σ' => exact h3 ρ' H' .non e hr' (vr_non.mpr rfl)
          | _ => exact rf.elim
        | rt v =>
          cases vf with
          | rt u => exact h3 ρ' H' u e hr' rf
          | _ => exact rf.elim
        | bk _ => exact h3.elim
        | ct _ => exact h3.elim
    · exact h3.elim
def FnD (P : Program) (w : World) (K : Fg) (mg : Str → Option Value) (base : Heap) (ct : Nat → Addr × List Str) (k : Nat) (x : Str) (fn : DL) : Prop := ∃ f fd ps, FnOk P w K mg base CX0 k f fd ps (spD0 ⟨K, ct⟩ fn) ∧ mg x = some (.ref f) ∧ PySem.W.keepIn K (.ref f) = true ∧ Binds K fd ps []
theorem FnD.mono {j k : Nat} {x : Str} {fn : DL} (F : FnD P w K mg base ct j x fn) (h : j ≤ k) : FnD P w K mg base ct k x fn := by
  obtain ⟨f, fd, ps, h1, h2⟩ := F
  exact ⟨f, fd, ps, h1.mono h, h2⟩
def Tx (K : Fg) (mg : Str → Option Value) (x : Str) (st : Stmt) (ps : List Str) : Prop := ∃ f fd, Fun K x x st f fd ∧ mg x = some (.ref f) ∧ Binds K fd ps []
theorem fnd_mk {x : Str} {st : Stmt} {N ps : List Str} {k : Nat} {d : DS} (T : Tx K mg x st ps) (S : FnScope N ps (defScope st))
    (h : ∀ (f : Addr) (cdv : Value) (A : Around) (outer : List Env) (s : Shared) (H : Hp) (E : XK), Room k (A.deeper (envOfC x (defScope st) s.heap.objs.size f cdv)) → PSsd (cxOf CX0 P w K mg base N x (defScope st) f cdv A outer s H E).nox ct E0 (defBody st) d) :
    FnD P w K mg base ct (k + 1) x (dDef ps.length N.length d) := by
  obtain ⟨f, fd, F, hm, hb⟩ := T
  exact ⟨f, fd, ps, fn_d F S (h f), hm, F.kp, hb⟩
theorem fnd_zero {x : Str} {st : Stmt} {ps : List Str} (T : Tx K mg x st ps) : FnD P w K mg base ct 0 x (fun _ _ => .no) := by
  obtain ⟨f, fd, F, hm, hb⟩ := T
  refine ⟨f, fd, ps, ⟨fun vs H Q E hs => ?_, fun A outer s H args us vs Q E _ _ _ _ hs => ?_⟩, hm, F.kp, hb⟩
  · obtain ⟨_, _, _, _, _, h3⟩ := hs
    exact h3.elim
  · obtain ⟨_, _, _, _, _, h3⟩ := hs
    exact h3.elim
end
section
variable {X : Cx} {ct : Nat → Addr × List Str} {E : XK} {e : Expr} {es : List Expr} {pos p : Pos} {dr : DA}
theorem xe_call {k : Nat} {x : Str} {fn : DL} (F : FnD X.prog X.w X.K X.mg X.base ct k x fn) (hr : Room k X.A) (hg : Gl X x) (ha : PAd X ct E (e :: es) dr) (hdb : (x == ("__debug__" : Str)) = false := by decide)
    (he : starEach (e :: es) X.env = (false, eval e X.env) :: starEach es X.env := by rfl) (hpl : (backTo pos (starEach es X.env)).any (·.1) = false := by rfl) : PEd X ct E (.Call (.Name x p) (e :: es) [] pos) (dCall fn dr) := by
  obtain ⟨f, fd, ps, h1, hm, hk, hb⟩ := F
  obtain ⟨ta, a1, a2⟩ := ha
  refine ⟨_, pe_call h1 hr hg hm hk hb .nil pass0 a1 hdb he hpl, fun ρ σ H es eh Q rel h => ?_⟩
  refine a2.bind rel h fun ρ1 H1 xs eh1 us e1 rel1 v1 h1 => ?_
  exact ⟨ρ1, xs, eh1, by rw [List.append_nil]; exact v1, rel1.hr, wr_noer h1⟩
def tE (G : Gx) (E : XK) (d : DE) : TE := fun σ H Q => ∃ ρ es eh, Rel G ρ σ H es eh ∧ wr G (VR G.K) ρ H (d es eh) Q E
def tT (G : Gx) (E : XK) (d : DT) : TT := fun σ H Q => ∃ ρ es eh, Rel G ρ σ H es eh ∧ wr G RB ρ H (d es eh) Q E
theorem PEd.can {d : DE} (h : PEd X ct E e d) : PE X e (tE ⟨X.K, ct⟩ E d) := by
  obtain ⟨t, h1, h2⟩ := h
  exact ⟨fun pins s σ H Q I ⟨ρ, es, eh, r, w⟩ => h1.run pins s σ H Q I (h2 ρ σ H es eh Q r w)⟩
theorem PTd.can {d : DT} (h : PTd X ct E e d) : PT X e (tT ⟨X.K, ct⟩ E d) := by
  obtain ⟨t, h1, h2⟩ := h
  exact ⟨fun pins s σ H Q I ⟨ρ, es, eh, r, w⟩ => h1.run pins s σ H Q I (h2 ρ σ H es eh Q r w)⟩
theorem snd_tE {G : Gx} {d : DE} : SndE G E (tE G E d) d := fun ρ σ H es eh Q r w => ⟨ρ, es, eh, r, w⟩
theorem snd_tT {G : Gx} {d : DT} : SndT G E (tT G E d) d := fun ρ σ H es eh Q r w => ⟨ρ, es, eh, r, w⟩
def dYes : DT := fun _ h => .ok true h
theorem snd_yes {G : Gx} : SndT G E tYes dYes := fun ρ σ H es eh Q rel h => h ρ H true (Ext.refl _ _ _) rel.hr rfl
variable {elt tg iter c : Expr} {scope : Scope} {di : DI} {dt : DT} {de : DE}
theorem xe_lc1 (i : Nat) {x : Str} {px : Pos} (hc : X.calm = true) (hN : X.N.Nodup) (hi : PId X ct E (.Name x px) iter di) (he : ∀ (s : Shared) (H : Hp) (C : Addr) (cl : List (Str × Addr)) (fp : List Addr), PEd (X.blk s H scope (compEnvC scope cl C X.env) fp) ct E elt de)
    (ok : blkC X.N X.env.scope scope [(x, i)] = true := by kernel_rfl)
    (hg : ∀ (s : Shared) (H : Hp) (C : Addr) (cl : List (Str × Addr)) (fp : List Addr), PG (X.blk s H scope (compEnvC scope cl C X.env) fp) (.Name x px) (gName i) := by exact fun _ _ _ _ _ => pg_name (by assumption) rfl (by first | exact Or.inl rfl | exact Or.inr rfl))
    (hs : ∀ x, foldedSetIterable iter X.env x = pure x := by intro _; rfl) :
    PEd X ct E (.ListComp elt [⟨.Name x px, iter, [], 0⟩] scope pos) (dLc di (dName i) dYes de [i]) := by
  obtain ⟨wi, i1, i2⟩ := hi
  exact ⟨_, pe_lc (own := [(x, i)]) hc hN i1 (blkOk_by ok) hg (fun _ _ _ _ _ => pts_nil) (fun s H C cl fp => (he s H C cl fp).can) hs, snd_lc i2 snd_gname (only_name (by simp)) snd_yes snd_tE⟩
theorem xe_lc1i (i : Nat) {x : Str} {px : Pos} (hc : X.calm = true) (hN : X.N.Nodup) (hi : PId X ct E (.Name x px) iter di) (ht : ∀ (s : Shared) (H : Hp) (C : Addr) (cl : List (Str × Addr)) (fp : List Addr), PTd (X.blk s H scope (compEnvC scope cl C X.env) fp) ct E c dt)
    (he : ∀ (s : Shared) (H : Hp) (C : Addr) (cl : List (Str × Addr)) (fp : List Addr), PEd (X.blk s H scope (compEnvC scope cl C X.env) fp) ct E elt de)
    (ok : blkC X.N X.env.scope scope [(x, i)] = true := by kernel_rfl)
    (hg : ∀ (s : Shared) (H : Hp) (C : Addr) (cl : List (Str × Addr)) (fp : List Addr), PG (X.blk s H scope (compEnvC scope cl C X.env) fp) (.Name x px) (gName i) := by exact fun _ _ _ _ _ => pg_name (by assumption) rfl (by first | exact Or.inl rfl | exact Or.inr rfl))
    (hs : ∀ x, foldedSetIterable iter X.env x = pure x := by intro _; rfl) :
    PEd X ct E (.ListComp elt [⟨.Name x px, iter, [c], 0⟩] scope pos) (dLc di (dName i) dt de [i]) := by
  obtain ⟨wi, i1, i2⟩ := hi
  exact ⟨_, pe_lc (own := [(x, i)]) hc hN i1 (blkOk_by ok) hg (fun s H C cl fp => pts_one (ht s H C cl fp).can) (fun s H C cl fp => (he s H C cl fp).can) hs, snd_lc i2 snd_gname (only_name (by simp)) snd_tT snd_tE⟩
theorem xs_setLc1 (j i : Nat) {x y : Str} {px py spos : Pos} (hc : X.calm = true) (hN : X.N.Nodup) (hi : PId X ct E (.Name x px) iter di) (he : ∀ (s : Shared) (H : Hp) (C : Addr) (cl : List (Str × Addr)) (fp : List Addr), PEd (X.blk s H scope (compEnvC scope cl C X.env) fp) ct E elt de)
    (hsw : swapsWith (.ListComp elt [⟨.Name x px, iter, [], 0⟩] scope pos) (some (.Name y py)) spos.line X.env = pure true)
    (ok : blkC X.N X.env.scope scope [(x, i)] = true := by kernel_rfl)
    (hg : ∀ (s : Shared) (H : Hp) (C : Addr) (cl : List (Str × Addr)) (fp : List Addr), PG (X.blk s H scope (compEnvC scope cl C X.env) fp) (.Name x px) (gName i) := by exact fun _ _ _ _ _ => pg_name (by assumption) rfl (by first | exact Or.inl rfl | exact Or.inr rfl))
    (hy : X.N[j]? = some y := by rfl) (hyl : X.env.scope.names.lookup y = some .local := by rfl) (hs : ∀ x, foldedSetIterable iter X.env x = pure x := by intro _; rfl) :
    PSd X ct E (.Assign [.Name y py] (.ListComp elt [⟨.Name x px, iter, [], 0⟩] scope pos) spos) (dAsg (dLc di (dName i) dYes de [i]) (dName j)) := by
  obtain ⟨wi, i1, i2⟩ := hi
  exact ⟨_, ps_setLc (own := [(x, i)]) hc hN hy hyl hsw i1 (blkOk_by ok) hg (fun _ _ _ _ _ => pts_nil) (fun s H C cl fp => (he s H C cl fp).can) hs, snd_asg (snd_lc i2 snd_gname (only_name (by simp)) snd_yes snd_tE) snd_gname⟩
theorem xs_setLc1i (j i : Nat) {x y : Str} {px py spos : Pos} (hc : X.calm = true) (hN : X.N.Nodup) (hi : PId X ct E (.Name x px) iter di) (ht : ∀ (s : Shared) (H : Hp) (C : Addr) (cl : List (Str × Addr)) (fp : List Addr), PTd (X.blk s H scope (compEnvC scope cl C X.env) fp) ct E c dt)
    (he : ∀ (s : Shared) (H : Hp) (C : Addr) (cl : List (Str × Addr)) (fp : List Addr), PEd (X.blk s H scope (compEnvC scope cl C X.env) fp) ct E elt de)
    (hsw : swapsWith (.ListComp elt [⟨.Name x px, iter, [c], 0⟩] scope pos) (some (.Name y py)) spos.line X.env = pure true)
    (ok : blkC X.N X.env.scope scope [(x, i)] = true := by kernel_rfl)
    (hg : ∀ (s : Shared) (H : Hp) (C : Addr) (cl : List (Str × Addr)) (fp : List Addr), PG (X.blk s H scope (compEnvC scope cl C X.env) fp) (.Name x px) (gName i) := by exact fun _ _ _ _ _ => pg_name (by assumption) rfl (by first | exact Or.inl rfl | exact Or.inr rfl))
    (hy : X.N[j]? = some y := by rfl) (hyl : X.env.scope.names.lookup y = some .local := by rfl) (hs : ∀ x, foldedSetIterable iter X.env x = pure x := by intro _; rfl) :
    PSd X ct E (.Assign [.Name y py] (.ListComp elt [⟨.Name x px, iter, [c], 0⟩] scope pos) spos) (dAsg (dLc di (dName i) dt de [i]) (dName j)) := by
  obtain ⟨wi, i1, i2⟩ := hi
  exact ⟨_, ps_setLc (own := [(x, i)]) hc hN hy hyl hsw i1 (blkOk_by ok) hg (fun s H C cl fp => pts_one (ht s H C cl fp).can) (fun s H C cl fp => (he s H C cl fp).can) hs, snd_asg (snd_lc i2 snd_gname (only_name (by simp)) snd_tT snd_tE) snd_gname⟩
end
def LawOk (fn : DL) : Prop := ∀ ns : List Int, ns.length ≤ 63 → ∃ h, fn [.ref 0] [.ro (ns.map EV.int)] = .ok (.bl true) h
theorem law_sp {K : Fg} {ct : Nat → Addr × List Str} {fn : DL} (hl : LawOk fn) {H : Hp} {a : Addr} {ns : List Int} (hn : ns.length ≤ 63) (hO : Only H) (hS : SqL K H a (ns.map V.int)) : spD0 ⟨K, ct⟩ fn [.ref a] H (fun v _ => v = .bl true) E0 := by
  obtain ⟨h', e⟩ := hl ns hn
  have hro : RoL K H a (ns.map V.int) := by
    rcases hS with (h | ⟨o, h⟩) | h
    · rcases hO a with z | ⟨o, xs, z⟩
      · rw [h] at z; cases z
      · rw [h] at z; cases z
    · exact .inl ⟨o, h⟩
    · exact .inr h
  refine ⟨[(false, a)], [.ref 0], [.ro (ns.map EV.int)], VRs.one (vr_ref.mpr ⟨a, rfl, rfl⟩), ⟨rfl, fun m n b h1 h2 => ?_, fun n o ho => ?_⟩, ?_⟩
  · cases m with
    | zero => simp at h1
    | succ m => simp at h1
  · cases n with
    | zero =>
      simp only [List.getElem?_cons_zero, Option.some.injEq] at ho
      subst ho
      exact ⟨a, rfl, ns.map V.int, hro, VRs.ints ns⟩
    | succ n => simp at ho
  · rw [e]
    intro ρ' H' u _ _ hv
    exact vr_bl.mp hv
end EE
set_option Elab.async false
set_option linter.all false
set_option maxRecDepth 100000
set_option maxHeartbeats 1000000
namespace EE
open PySem PySem.Spec PyProof.Rows L2
abbrev fAdd : D2 := d2or fAddI fCat
abbrev fMul : D2 := d2or fMulI fRep
abbrev fIn : D2 := fInL false
abbrev fNotIn : D2 := fInL true
section
variable {X : Cx} {ct : Nat → Addr × List Str} {E : XK}
theorem o_add : Opd X ct E (binaryOp .Add) fAdd := o_addI.or o_cat
theorem o_mul : Opd X ct E (binaryOp .Mult) fMul := o_mulI.or o_rep
theorem o_in (hu : X.A.units + 65 < cLine) : Opd X ct E (compareOp .In) fIn := o_inL hu
theorem o_notIn (hu : X.A.units + 65 < cLine) : Opd X ct E (compareOp .NotIn) fNotIn := o_notInL hu
theorem hu64 {k : Nat} {A : Around} (hr : Room k A) : A.units + 64 < cLine := by have := hr.un; omega
theorem hu65 {k : Nat} {A : Around} (hr : Room k A) : A.units + 65 < cLine := by have := hr.un; omega
end
end EE
set_option Elab.async false
set_option linter.all false
set_option maxRecDepth 100000
set_option maxHeartbeats 1000000
namespace EE
open PySem PySem.Spec PyProof.Rows L2
section
variable {κ : Type} [DecidableEq κ]
def dval (f : EV → Option κ) (kvs : List (EV × EV)) (k : κ) : Option EV := (kvs.find? fun p => decide (f p.1 = some k)).map (·.2)
def dput (f : EV → Option κ) (kvs : List (EV × EV)) (k : κ) (x v : EV) : List (EV × EV) :=
  if (kvs.any fun p => decide (f p.1 = some k)) = true then kvs.map (fun p => if f p.1 = some k then (p.1, v) else p) else kvs ++ [(x, v)]
def ddrop (f : EV → Option κ) (kvs : List (EV × EV)) (k : κ) : List (EV × EV) := kvs.filter fun p => decide (f p.1 ≠ some k)
variable {f : EV → Option κ} {R : EV → V → Prop}
theorem KR.len : ∀ {ps : List (EV × EV)} {l : List (κ × V)}, KR f R ps l → ps.length = l.length
  | [], _, h => by rw [h]; rfl
  | p :: ps, _, ⟨k, v, r, e, h1, h2, h3⟩ => by rw [e, List.length_cons, List.length_cons, KR.len h3]
theorem KR.val : ∀ {ps : List (EV × EV)} {l : List (κ × V)} (k : κ), KR f R ps l → FR R (dval f ps k) (valV l k)
  | [], _, k, h => by rw [h]; trivial
  | p :: ps, _, k, ⟨j, v, r, e, h1, h2, h3⟩ => by
    subst e
    by_cases hk : j = k
    · subst hk
      rw [valV_pos (p := (j, v)) rfl]
      unfold dval
      rw [List.find?_cons_of_pos (by simp [h1])]
      exact h2
    · rw [valV_neg (p := (j, v)) hk]
      unfold dval
      rw [List.find?_cons_of_neg (by simp [h1, hk])]
      exact KR.val k h3
theorem KR.any : ∀ {ps : List (EV × EV)} {l : List (κ × V)} (k : κ), KR f R ps l → (ps.any fun p => decide (f p.1 = some k)) = (l.any fun p => decide (p.1 = k))
  | [], _, k, h => by rw [h]; rfl
  | p :: ps, _, k, ⟨j, v, r, e, h1, h2, h3⟩ => by
    subst e
    rw [List.any_cons, List.any_cons, KR.any k h3, h1]
    simp only [Option.some.injEq]
theorem KR.upd {x : EV} {u : V} (k : κ) (hx : R x u) : ∀ {ps : List (EV × EV)} {l : List (κ × V)}, KR f R ps l → KR f R (ps.map fun p => if f p.1 = some k then (p.1, x) else p) (l.map fun p => if p.1 = k then (p.1, u) else p)
  | [], _, h => by rw [h]; rfl
  | p :: ps, _, ⟨j, v, r, e, h1, h2, h3⟩ => by
    subst e
    rw [List.map_cons, List.map_cons]
    by_cases hk : j = k
    · subst hk
      refine ⟨j, u, _, by rw [if_pos rfl], ?_, ?_, KR.upd j hx h3⟩
      · rw [if_pos h1]; exact h1
      · rw [if_pos h1]; exact hx
    · refine ⟨j, v, _, by rw [if_neg hk], ?_, ?_, KR.upd k hx h3⟩
      · rw [if_neg (by rw [h1]; simpa using hk)]; exact h1
      · rw [if_neg (by rw [h1]; simpa using hk)]; exact h2
theorem KR.snoc {y x : EV} {k : κ} {u : V} (hy : f y = some k) (hx : R x u) : ∀ {ps : List (EV × EV)} {l : List (κ × V)}, KR f R ps l → KR f R (ps ++ [(y, x)]) (l ++ [(k, u)])
  | [], _, h => by rw [h]; exact ⟨k, u, [], rfl, hy, hx, rfl⟩
  | p :: ps, _, ⟨j, v, r, e, h1, h2, h3⟩ => by
    subst e
    exact ⟨j, v, _, rfl, h1, h2, KR.snoc hy hx h3⟩
theorem KR.put {ps : List (EV × EV)} {l : List (κ × V)} {y x : EV} {k : κ} {u : V} (hy : f y = some k) (hx : R x u) (h : KR f R ps l) : KR f R (dput f ps k y x) (putK l k u) := by
  unfold dput putK
  rw [h.any k]
  split
  · exact h.upd k hx
  · exact h.snoc hy hx
theorem KR.drop (k : κ) : ∀ {ps : List (EV × EV)} {l : List (κ × V)}, KR f R ps l → KR f R (ddrop f ps k) (dropK l k)
  | [], _, h => by rw [h]; rfl
  | p :: ps, _, ⟨j, v, r, e, h1, h2, h3⟩ => by
    subst e
    unfold ddrop dropK
    by_cases hk : j = k
    · rw [List.filter_cons_of_neg (by simp [h1, hk]), List.filter_cons_of_neg (by simp [hk])]
      exact KR.drop k h3
    · rw [List.filter_cons_of_pos (by simp [h1, hk]), List.filter_cons_of_pos (by simp [hk])]
      exact ⟨j, v, _, rfl, h1, h2, KR.drop k h3⟩
theorem KR.at : ∀ {ps : List (EV × EV)} {l : List (κ × V)} {i : Nat} {p : EV × EV}, KR f R ps l → ps[i]? = some p → ∃ k v, l[i]? = some (k, v) ∧ f p.1 = some k ∧ R p.2 v
  | [], _, _, _, _, e => by simp at e
  | q :: ps, _, i, p, ⟨j, v, r, e, h1, h2, h3⟩, hp => by
    subst e
    cases i with
    | zero =>
      simp only [List.getElem?_cons_zero, Option.some.injEq] at hp
      subst hp
      exact ⟨j, v, rfl, h1, h2⟩
    | succ i =>
      simp only [List.getElem?_cons_succ] at hp ⊢
      exact KR.at h3 hp
end
theorem keyOf_vr {K : Fg} {ρ : Rho} {H : Hp} {x : EV} {k : Key} (h : keyOf x = some k) : VR K ρ H x (kV k) := by
  unfold keyOf at h
  split at h
  · cases h; exact vr_int.mpr rfl
  · cases h; exact vr_str.mpr rfl
  · cases h
theorem keyOf_eq {K : Fg} {ρ : Rho} {H : Hp} {x : EV} {k : Key} {y : V} (h : keyOf x = some k) (hx : VR K ρ H x y) : y = kV k := by
  unfold keyOf at h
  split at h
  · cases h; exact vr_int.mp hx
  · cases h; exact vr_str.mp hx
  · cases h
theorem keysOf_vrs {K : Fg} {ρ : Rho} {H : Hp} : ∀ {xs : List EV} {ks : List Key}, keysOf xs = some ks → VRs K ρ H xs (ks.map kV)
  | [], ks, h => by cases h; exact vrs_nil.mpr rfl
  | x :: xs, ks, h => by
    unfold keysOf at h
    split at h
    · rename_i k ks' e1 e2
      cases h
      exact vrs_cons.mpr ⟨kV k, ks'.map kV, rfl, keyOf_vr e1, keysOf_vrs e2⟩
    · cases h
theorem keysOf_eq {K : Fg} {ρ : Rho} {H : Hp} : ∀ {xs : List EV} {ks : List Key} {vs : List V}, keysOf xs = some ks → VRs K ρ H xs vs → vs = ks.map kV
  | [], ks, vs, h, hv => by cases h; exact vrs_nil.mp hv
  | x :: xs, ks, vs, h, hv => by
    unfold keysOf at h
    split at h
    · rename_i k ks' e1 e2
      cases h
      obtain ⟨v, r, rfl, h1, h2⟩ := vrs_cons.mp hv
      rw [keyOf_eq e1 h1, keysOf_eq e2 h2]
      rfl
    · cases h
theorem tkeyOf_vr {K : Fg} {ρ : Rho} {H : Hp} {x : EV} {k : List Key} {b : Addr} (h : tkeyOf x = some k) (hb : H b = some (.tup (k.map kV))) : VR K ρ H x (.ref b) := by
  unfold tkeyOf at h
  split at h
  · exact vr_tup.mpr ⟨b, k.map kV, rfl, hb, keysOf_vrs h⟩
  · cases h
theorem tkeyOf_eq {K : Fg} {ρ : Rho} {H : Hp} {x : EV} {k : List Key} {y : V} (h : tkeyOf x = some k) (hx : VR K ρ H x y) : ∃ b, y = .ref b ∧ H b = some (.tup (k.map kV)) := by
  unfold tkeyOf at h
  split at h
  · obtain ⟨a, vs, rfl, e2, e3⟩ := vr_tup.mp hx
    rw [keysOf_eq h e3] at e2
    exact ⟨a, rfl, e2⟩
  · cases h
def dgetE (t : Bool) (kvs : List (EV × EV)) (x : EV) : Option (Option EV) := match t with
  | false => (keyOf x).map (dval keyOf kvs)
  | true => (tkeyOf x).map (dval tkeyOf kvs)
def dputE (t : Bool) (kvs : List (EV × EV)) (x v : EV) : Option (List (EV × EV)) := match t with
  | false => (keyOf x).map fun k => dput keyOf kvs k x v
  | true => (tkeyOf x).map fun k => dput tkeyOf kvs k x v
def mdicAt (h : EH) (n : Nat) : Option (Bool × List (EV × EV)) := match h[n]? with
  | some (.dic t xs) => some (t, xs)
  | _ => none
section
variable {G : Gx} {ρ : Rho} {H : Hp} {eh : EH} {n : Nat}
theorem dic_of (hr : HR G ρ H eh) {t : Bool} {kvs : List (EV × EV)} (h : dicAt eh n = some (t, kvs)) : ∃ a u, adr ρ n = some a ∧ Rd H a u ∧ DR (VR G.K ρ H) t kvs u := by
  unfold dicAt at h
  split at h
  · rename_i t ys e
    cases h
    obtain ⟨a, h1, u, h2, h3⟩ := hr.obj n _ e
    exact ⟨a, u, adr_of h1, .inl h2, h3⟩
  · rename_i t ys e
    cases h
    obtain ⟨a, h1, f, u, h2, h3⟩ := hr.obj n _ e
    exact ⟨a, u, adr_of h1, .inr ⟨f, h2⟩, h3⟩
  · cases h
theorem mdic_of (hr : HR G ρ H eh) {t : Bool} {kvs : List (EV × EV)} (h : mdicAt eh n = some (t, kvs)) : ∃ a u, adr ρ n = some a ∧ H a = some u ∧ DR (VR G.K ρ H) t kvs u ∧ ρ[n]? = some (true, a) := by
  unfold mdicAt at h
  split at h
  · rename_i t ys e
    cases h
    obtain ⟨a, h1, u, h2, h3⟩ := hr.obj n _ e
    exact ⟨a, u, adr_of h1, h2, h3, h1⟩
  · cases h
theorem dget_of {t : Bool} {kvs : List (EV × EV)} {u : HO} {a : Addr} {x : EV} {y : V} {o : Option EV} (hu : Rd H a u) (hd : DR (VR G.K ρ H) t kvs u) (h : dgetE t kvs x = some o) (hx : VR G.K ρ H x y) : ∃ ov, DGet H a y ov ∧ FR (VR G.K ρ H) o ov := by
  cases t with
  | false =>
    obtain ⟨l, rfl, hk⟩ := hd
    obtain ⟨k, e1, e2⟩ := Option.map_eq_some_iff.mp h
    subst e2
    exact ⟨_, .inl ⟨l, k, hu, keyOf_eq e1 hx, rfl⟩, hk.val k⟩
  | true =>
    obtain ⟨l, rfl, hk⟩ := hd
    obtain ⟨k, e1, e2⟩ := Option.map_eq_some_iff.mp h
    subst e2
    obtain ⟨b, rfl, hb⟩ := tkeyOf_eq e1 hx
    exact ⟨_, .inr ⟨l, k, b, hu, rfl, hb, rfl⟩, hk.val k⟩
theorem put_dic (hr : HR G ρ H eh) {a : Addr} {u u' : HO} {t : Bool} {kvs kvs' : List (EV × EV)} (hn : ρ[n]? = some (true, a)) (ha : H a = some u) (hd : DR (VR G.K ρ H) t kvs u) (hd' : DR (VR G.K ρ H) t kvs' u') :
    Ext G.K ρ ρ H (upd H a u') ∧ HR G ρ (upd H a u') (eh.set n (.dic t kvs')) := by
  have e : Ext G.K ρ ρ H (upd H a u') := Ext.write _ hn ha hd.ntup hd.nfrz
  exact ⟨e, hr.write hn rfl e ⟨u', upd_same, hd'.mono fun x v => VR.mono e x v⟩⟩
theorem DR.len {R : EV → V → Prop} : ∀ {t : Bool} {kvs : List (EV × EV)} {l : List (Key × V)}, DR R t kvs (.dK l) → kvs.length = l.length
  | false, _, _, ⟨_, e, q⟩ => by cases e; exact q.len
  | true, _, _, ⟨_, e, q⟩ => by cases e
theorem dput_of (hr : HR G ρ H eh) {t : Bool} {kvs kvs' : List (EV × EV)} {x v : EV} {y w : V} (h : mdicAt eh n = some (t, kvs)) (hp : dputE t kvs x v = some kvs') (hl : kvs.length < 100000) (hx : VR G.K ρ H x y) (hv : VR G.K ρ H v w) :
    ∃ a H', adr ρ n = some a ∧ DPut H a y w H' ∧ Ext G.K ρ ρ H H' ∧ HR G ρ H' (eh.set n (.dic t kvs')) := by
  obtain ⟨a, u, h1, h2, h3, h4⟩ := mdic_of hr h
  have hz : kvs.length < sizeLine := Nat.lt_of_lt_of_le hl (by decide)
  cases t with
  | false =>
    obtain ⟨l, rfl, hk⟩ := h3
    obtain ⟨k, e1, e2⟩ := Option.map_eq_some_iff.mp hp
    subst e2
    obtain ⟨e, hr'⟩ := put_dic (t := false) (kvs := kvs) (kvs' := dput keyOf kvs k x v) (u' := .dK (putK l k w)) hr h4 h2 ⟨l, rfl, hk⟩ ⟨_, rfl, hk.put e1 hv⟩
    exact ⟨a, _, h1, .inl ⟨l, k, h2, keyOf_eq e1 hx, by rw [← hk.len]; exact hz, rfl⟩, e, hr'⟩
  | true =>
    obtain ⟨l, rfl, hk⟩ := h3
    obtain ⟨k, e1, e2⟩ := Option.map_eq_some_iff.mp hp
    subst e2
    obtain ⟨b, rfl, hb⟩ := tkeyOf_eq e1 hx
    obtain ⟨e, hr'⟩ := put_dic (t := true) (kvs := kvs) (kvs' := dput tkeyOf kvs k x v) (u' := .dT (putK l k w)) hr h4 h2 ⟨l, rfl, hk⟩ ⟨_, rfl, hk.put e1 hv⟩
    exact ⟨a, _, h1, .inr ⟨l, k, b, h2, rfl, hb, by rw [← hk.len]; exact hz, rfl⟩, e, hr'⟩
end
def fDGet : D2 := fun x y h => match x with
  | .ref n => match dicAt h n with
    | some (t, kvs) => match dgetE t kvs y with
      | some (some v) => .ok v h
      | _ => .no
    | none => .no
  | _ => .no
def fDIn (neg : Bool) : D2 := fun x y h => match y with
  | .ref n => match dicAt h n with
    | some (t, kvs) => match dgetE t kvs x with
      | some o => .ok (.bl (neg ^^ o.isSome)) h
      | _ => .no
    | none => .no
  | _ => .no
def sDic : DSet := fun o i x h => match o with
  | .ref n => match mdicAt h n with
    | some (t, kvs) => match dputE t kvs i x with
      | some kvs' => if kvs.length < 100000 then .ok () (h.set n (.dic t kvs')) else .no
      | none => .no
    | none => .no
  | _ => .no
theorem FR.isSome {R : EV → V → Prop} : ∀ {x : Option EV} {v : Option V}, FR R x v → x.isSome = v.isSome
  | some _, some _, _ => rfl
  | none, none, _ => rfl
  | some _, none, q => q.elim
  | none, some _, q => q.elim
theorem dOp_or (f g : D2) (a b : DE) (es : ES) (h : EH) : dOp (d2or f g) a b es h = dOp f a b es h ∨ dOp (d2or f g) a b es h = dOp g a b es h := by
  unfold dOp
  cases a es h with
  | ok x h1 =>
    simp only [bind_ok]
    cases b es h1 with
    | ok y h2 =>
      simp only [bind_ok]
      unfold d2or
      cases q : f x y h2 with
      | no => right; rfl
      | ok v h' => left; rfl
      | er x h' => left; rfl
    | er x h2 => left; rfl
    | no => left; rfl
  | er x h1 => left; rfl
  | no => left; rfl
section
variable {X : Cx} {ct : Nat → Addr × List Str} {E : XK} {G : Gx} {a b : Expr} {da db : DE} {pos : Pos}
theorem xe_alt {e : Expr} {d d' d2 : DE} (h : PEd X ct E e d) (h' : PEd X ct E e d') (hd : ∀ es h, d2 es h = d es h ∨ d2 es h = d' es h) : PEd X ct E e d2 := by
  obtain ⟨t, a1, a2⟩ := h
  obtain ⟨t', b1, b2⟩ := h'
  refine ⟨fun σ H Q => t σ H Q ∨ t' σ H Q, ⟨fun pins s σ H Q I q => ?_⟩, fun ρ σ H es eh Q rel hw => ?_⟩
  · rcases q with q | q
    · exact a1.run pins s σ H Q I q
    · exact b1.run pins s σ H Q I q
  · rcases hd es eh with q | q
    · rw [q] at hw
      exact .inl (a2 ρ σ H es eh Q rel hw)
    · rw [q] at hw
      exact .inr (b2 ρ σ H es eh Q rel hw)
theorem xe_dget (hu : X.A.units + 1 < cLine) (ha : PEd X ct E a da) (hb : PEd X ct E b db) (hs : NoSl b := by exact fun _ _ => rfl) : PEd X ct E (.Subscript a b pos) (dOp fDGet da db) := by
  obtain ⟨t, a1, a2⟩ := ha
  obtain ⟨u, b1, b2⟩ := hb
  refine ⟨_, pe_dget hu a1 b1 hs, fun ρ σ H es eh Q rel h => ?_⟩
  refine a2.bind rel h fun ρ1 H1 x eh1 v e1 rel1 v1 h1 => ?_
  refine b2.bind rel1 h1 fun ρ2 H2 y eh2 w e2 rel2 v2 h2 => ?_
  unfold fDGet at h2
  split at h2
  · rename_i n
    split at h2
    · rename_i t kvs e3
      split at h2
      · rename_i z e4
        obtain ⟨p, uo, g1, g2, g3⟩ := dic_of rel2.hr e3
        obtain ⟨p', q1, rfl⟩ := vr_ref.mp (v1.mono e2)
        rw [g1] at q1; cases q1
        obtain ⟨ov, k1, k2⟩ := dget_of g2 g3 e4 v2
        cases ov with
        | none => exact k2.elim
        | some zz => exact ⟨p, zz, rfl, k1, h2 ρ2 H2 _ (Ext.refl _ _ _) rel2.hr k2⟩
      · exact h2.elim
    · exact h2.elim
  · exact h2.elim
theorem xe_ixd {f : D2} (hu : X.A.units + 1 < cLine) (hf : Ixd X ct E f) (ha : PEd X ct E a da) (hb : PEd X ct E b db) (hs : PlainIx b := by exact fun _ _ => rfl) (hs2 : NoSl b := by exact fun _ _ => rfl) : PEd X ct E (.Subscript a b pos) (dOp (d2or f fDGet) da db) :=
  xe_alt (xe_ix hf ha hb hs) (xe_dget hu ha hb hs2) fun es h => dOp_or _ _ _ _ es h
theorem o_dIn (hu : X.A.units + 1 < cLine) : Opd X ct E (compareOp .In) (fDIn false) := ⟨fun y x H Q => ∃ a o, x = .ref a ∧ DGet H a y o ∧ Q (.bl o.isSome) H, by
  rintro pins s σ H y x v u Q I ry rx ⟨a, o, rfl, g, q⟩
  obtain rfl : u = Value.ref a := rx
  exact d_in hu I g ry fun s3 I3 => ⟨.bl o.isSome, H, I3, rfl, q⟩, fun ρ H eh x y v w Q hr hx hy h => by
  unfold fDIn at h
  split at h
  · rename_i n
    split at h
    · rename_i t kvs e3
      split at h
      · rename_i o e4
        obtain ⟨p, uo, g1, g2, g3⟩ := dic_of hr e3
        obtain ⟨p', q1, rfl⟩ := vr_ref.mp hy
        rw [g1] at q1; cases q1
        obtain ⟨ov, k1, k2⟩ := dget_of g2 g3 e4 hx
        exact ⟨p, ov, rfl, k1, h ρ H _ (Ext.refl _ _ _) hr (vr_bl.mpr (by rw [k2.isSome]; simp))⟩
      · exact h.elim
    · exact h.elim
  · exact h.elim⟩
theorem o_dNotIn (hu : X.A.units + 1 < cLine) : Opd X ct E (compareOp .NotIn) (fDIn true) := ⟨fun y x H Q => ∃ a o, x = .ref a ∧ DGet H a y o ∧ Q (.bl (!o.isSome)) H, by
  rintro pins s σ H y x v u Q I ry rx ⟨a, o, rfl, g, q⟩
  obtain rfl : u = Value.ref a := rx
  exact d_notIn hu I g ry fun s3 I3 => ⟨.bl (!o.isSome), H, I3, rfl, q⟩, fun ρ H eh x y v w Q hr hx hy h => by
  unfold fDIn at h
  split at h
  · rename_i n
    split at h
    · rename_i t kvs e3
      split at h
      · rename_i o e4
        obtain ⟨p, uo, g1, g2, g3⟩ := dic_of hr e3
        obtain ⟨p', q1, rfl⟩ := vr_ref.mp hy
        rw [g1] at q1; cases q1
        obtain ⟨ov, k1, k2⟩ := dget_of g2 g3 e4 hx
        exact ⟨p, ov, rfl, k1, h ρ H _ (Ext.refl _ _ _) hr (vr_bl.mpr (by rw [k2.isSome]; simp))⟩
      · exact h.elim
    · exact h.elim
  · exact h.elim⟩
theorem set_dic (hu : X.A.units + 1 < cLine) : PSetd X ct E sDic := ⟨_, set_dict hu, fun ρ H eh o i x a b c Q hr ho hi hx h => by
  unfold sDic at h
  split at h
  · rename_i n
    split at h
    · rename_i t kvs e3
      split at h
      · rename_i kvs' e4
        split at h
        · rename_i hl
          obtain ⟨p, H', g1, g2, g3, g4⟩ := dput_of hr e3 e4 hl hi hx
          obtain ⟨p', q1, rfl⟩ := vr_ref.mp ho
          rw [g1] at q1; cases q1
          exact ⟨p, H', rfl, g2, h ρ H' () g3 g4 trivial⟩
        · exact h.elim
      · exact h.elim
    · exact h.elim
  · exact h.elim⟩
def dNewD (t : Bool) : DE := fun _ h => .ok (.ref h.length) (h ++ [.dic t []])
theorem xe_dnew (t : Bool) : PEd X ct E (.Dict [] [] pos) (dNewD t) := by
  have key : ∀ (u : HO), DR (VR X.K [] fun _ => none) t [] u → (∀ ρ H, DR (VR X.K ρ H) t [] u) → ∀ (ρ : Rho) (σ : L2.St) (H : Hp) (es : ES) (eh : EH) (Q : VK), Rel ⟨X.K, ct⟩ ρ σ H es eh → wr ⟨X.K, ct⟩ (VR X.K) ρ H (dNewD t es eh) Q E → ∀ p, H p = none → Q (.ref p) (upd H p u) := fun u _ hu ρ σ H es eh Q rel h p hp => by
    exact h (ρ ++ [(true, p)]) _ _ (Ext.alloc _ hp) (rel.hr.alloc (o := .dic t []) hp rfl ⟨u, upd_same, hu _ _⟩) (vr_ref.mpr ⟨p, last_get rel.hr.len, rfl⟩)
  cases t with
  | false => exact ⟨_, pe_dnewK, key (.dK []) ⟨[], rfl, rfl⟩ fun _ _ => ⟨[], rfl, rfl⟩⟩
  | true => exact ⟨_, pe_dnewT, key (.dT []) ⟨[], rfl, rfl⟩ fun _ _ => ⟨[], rfl, rfl⟩⟩
def mPopT : EV → DL := fun x xs h => match x, xs with
  | .ref n, [y, z] => match mdicAt h n, tkeyOf y with
    | some (true, kvs), some k => match dval tkeyOf kvs k with
      | some v => .ok v (h.set n (.dic true (ddrop tkeyOf kvs k)))
      | none => .ok z h
    | _, _ => .no
  | _, _ => .no
theorem m_popT (hu : X.A.units + 1 < cLine) : Mtd X ct E "dict.pop" mPopT := ⟨_, L2.DX.mt_popT hu, fun ρ H eh x a xs as Q hr hx hxs h => by
  unfold mPopT at h
  split at h
  · rename_i n y z
    split at h
    · rename_i kvs k e1 e2
      obtain ⟨p, u, g1, g2, g3, g4⟩ := mdic_of hr e1
      obtain ⟨l, rfl, hk⟩ := g3
      obtain ⟨p', q1, rfl⟩ := vr_ref.mp hx
      rw [g1] at q1; cases q1
      obtain ⟨v, w, rfl, hv, hw⟩ := vrs_two hxs
      obtain ⟨b, rfl, hb⟩ := tkeyOf_eq e2 hv
      have hval := hk.val k
      refine ⟨p, l, k, b, w, rfl, rfl, g2, hb, fun v0 hv0 => ?_, fun hn => ?_⟩
      · rw [hv0] at hval
        split at h
        · rename_i ve e3
          rw [e3] at hval
          obtain ⟨e, hr'⟩ := put_dic (t := true) (kvs := kvs) (kvs' := ddrop tkeyOf kvs k) (u' := .dT (dropK l k)) hr g4 g2 ⟨l, rfl, hk⟩ ⟨_, rfl, hk.drop k⟩
          exact h ρ _ _ e hr' (VR.mono e _ _ hval)
        · rename_i e3
          rw [e3] at hval
          exact hval.elim
      · rw [hn] at hval
        split at h
        · rename_i ve e3
          rw [e3] at hval
          exact hval.elim
        · exact h ρ _ _ (Ext.refl _ _ _) hr hw
    · exact h.elim
  · exact h.elim⟩
def dBMD (f : EV → DL) (o : DE) (a : DA) : DE := fun es h => (o es h).bind fun x h1 => match x with
  | .ref n => match mdicAt h1 n with
    | some _ => (a es h1).bind fun xs h2 => f x xs h2
    | none => .no
  | _ => .no
theorem DR.ty {R : EV → V → Prop} {H : Hp} {a : Addr} (K : Fg) : ∀ {t : Bool} {kvs : List (EV × EV)} {u : HO}, H a = some u → DR R t kvs u → tyV K "dict" (.ref a) H
  | false, _, _, e, ⟨l, q, _⟩ => by subst q; exact .inr (.inr (.inl ⟨rfl, .inl ⟨_, e⟩⟩))
  | true, _, _, e, ⟨l, q, _⟩ => by subst q; exact .inr (.inr (.inl ⟨rfl, .inr ⟨_, e⟩⟩))
theorem snd_bmD {r : V → List V → Hp → VK → Prop} {f : EV → DL} {to : TE} {ta : TA} {o : DE} {a : DA} (hr : SndM G E r f) (ho : SndE G E to o) (ha : SndA G E ta a) : SndE G E (tBM G.K "dict" r to ta) (dBMD f o a) := fun ρ σ H es eh Q rel h => by
  refine ho.bind rel h fun ρ1 H1 x eh1 u e1 rel1 v1 h1 => ?_
  cases x with
  | ref n =>
    simp only at h1
    split at h1
    · rename_i tk e2
      obtain ⟨a1, vs, g1, g2, g3, _⟩ := mdic_of rel1.hr e2
      obtain ⟨a', q1, rfl⟩ := vr_ref.mp v1
      rw [g1] at q1; cases q1
      refine ⟨g3.ty _ g2, ha.bind rel1 h1 fun ρ2 H2 xs eh2 us e2 rel2 v2 h2 => ?_⟩
      exact hr ρ2 H2 eh2 _ _ xs us Q rel2.hr (v1.mono e2) v2 h2
    · exact h1.elim
  | _ => exact h1.elim
variable {e e' : Expr} {dr : DA}
theorem xe_popT {apos cpos : Pos} (hu : X.A.units + 1 < cLine) (ho : PEd X ct E a da) (ha : PAd X ct E [e, e'] dr)
    (hbase : attributeBase a "pop" X.env (eval a X.env) = eval a X.env := by rfl)
    (hfew : ((backTo cpos (starEach [e, e'] X.env)).all (fun x => !x.1) && (backToKw cpos (keywordEach [] X.env)).all (fun x => x.1.isSome)
      && decide ([e, e'].length + ([] : List Keyword).length + (if ([] : List Keyword).isEmpty then 0 else 1) < 30)) = true := by rfl)
    (hline : (apos.endLine == cpos.line) = true := by rfl) (hs : starEach [e, e'] X.env = (false, eval e X.env) :: starEach [e'] X.env := by rfl) (hplain : (backTo cpos (starEach [e'] X.env)).any (·.1) = false := by rfl) :
    PEd X ct E (.Call (.Attribute a "pop" apos) [e, e'] [] cpos) (dBMD mPopT da dr) := by
  obtain ⟨r, m1, m2⟩ := m_popT (X := X) (ct := ct) (E := E) hu
  obtain ⟨t, a1, a2⟩ := ho
  obtain ⟨u, b1, b2⟩ := ha
  exact ⟨_, pe_bm PySem.F.plainAttrs_dict PySem.F.slot_dict_pop PySem.F.type_dict_pop m1 a1 b1 hbase hfew hline hs hplain, snd_bmD m2 a2 b2⟩
end
end EE
set_option Elab.async false
set_option linter.all false
set_option maxRecDepth 100000
set_option maxHeartbeats 1000000
namespace EE
open PySem PySem.Spec PyProof.Rows L2
structure Cd (K : Fg) (cn : Addr × List Str) : Prop where
  cl : Cls K cn.1
  no : ∀ m ∈ cn.2, NoAttr K cn.1 m
  nd : cn.2.Nodup
  few : cn.2.length < 100
theorem putF_len {f : Str} {y : V} : ∀ {l : List (Str × V)} {v : V}, l.lookup f = some v → (putF f y l).length = l.length
  | [], _, h => by simp at h
  | (g, x) :: r, v, h => by
    unfold putF
    by_cases e : g = f
    · rw [if_pos e, List.length_cons, List.length_cons]
    · rw [if_neg e, List.length_cons, List.length_cons, putF_len (v := v)]
      rw [List.lookup_cons] at h
      have : (f == g) = false := by simpa using fun z => e z.symm
      rw [this] at h
      exact h
def cnt (fs : List (Option EV)) : Nat := (fs.filter fun z => z.isSome).length
theorem cnt_le (fs : List (Option EV)) : cnt fs ≤ fs.length := List.length_filter_le _ _
theorem cnt_set : ∀ {fs : List (Option EV)} {i : Nat} (v : EV), i < fs.length → cnt fs ≤ cnt (fs.set i (some v)) ∧ (fs[i]? = some none → cnt fs + 1 ≤ cnt (fs.set i (some v)))
  | [], i, v, h => by simp at h
  | x :: fs, 0, v, h => by
    unfold cnt
    cases x with
    | none => simp [List.filter_cons]
    | some x => simp [List.filter_cons]
  | x :: fs, i + 1, v, h => by
    have ih := cnt_set (fs := fs) (i := i) v (by simpa using h)
    unfold cnt at ih ⊢
    simp only [List.set_cons_succ, List.getElem?_cons_succ]
    cases x with
    | none => rw [List.filter_cons_of_neg (by simp), List.filter_cons_of_neg (by simp)]; exact ih
    | some x =>
      rw [List.filter_cons_of_pos (by rfl), List.filter_cons_of_pos (by rfl), List.length_cons, List.length_cons]
      exact ⟨by omega, fun z => by have := ih.2 z; omega⟩
theorem nodup_at {l : List Str} (h : l.Nodup) {i j : Nat} {m : Str} (hi : l[i]? = some m) (hj : l[j]? = some m) : i = j := by
  obtain ⟨i1, i2⟩ := List.getElem?_eq_some_iff.mp hi
  obtain ⟨j1, j2⟩ := List.getElem?_eq_some_iff.mp hj
  have key := List.pairwise_iff_getElem.mp h
  rcases Nat.lt_trichotomy i j with z | z | z
  · exact absurd (i2.trans j2.symm) (key i j i1 j1 z)
  · exact z
  · exact absurd (j2.trans i2.symm) (key j i j1 i1 z)
def objAt (c : Nat) (h : EH) (n : Nat) : Option (List (Option EV)) := match h[n]? with
  | some (.obj c' fs) => if c' = c then some fs else none
  | _ => none
section
variable {G : Gx} {ρ : Rho} {H : Hp} {eh : EH} {n c : Nat}
theorem obj_of (hr : HR G ρ H eh) {fs : List (Option EV)} (h : objAt c eh n = some fs) : ∃ a dx l, adr ρ n = some a ∧ ρ[n]? = some (true, a) ∧ H a = some (.ins (G.ct c).1 dx l) ∧ fs.length = (G.ct c).2.length ∧ l.length ≤ cnt fs ∧
    (∀ (i : Nat) (x : Option EV), fs[i]? = some x → ∀ m, (G.ct c).2[i]? = some m → FR (VR G.K ρ H) x (l.lookup m)) ∧ ∀ m, m ∉ (G.ct c).2 → l.lookup m = none := by
  unfold objAt at h
  split at h
  · rename_i c' ys e
    split at h
    · rename_i hc
      cases h
      subst hc
      obtain ⟨a, h1, dx, l, h2, h3, h4, h5, h6⟩ := hr.obj n _ e
      exact ⟨a, dx, l, adr_of h1, h1, h2, h3, h4, h5, h6⟩
    · cases h
  · cases h
theorem put_fld (hr : HR G ρ H eh) (hc : Cd G.K (G.ct c)) {fs : List (Option EV)} {i : Nat} {f : Str} {v : EV} {y : V} {a dx : Addr} {l : List (Str × V)} (hi : (G.ct c).2[i]? = some f) (hn : ρ[n]? = some (true, a)) (ha : H a = some (.ins (G.ct c).1 dx l)) (h3 : fs.length = (G.ct c).2.length)
    (h4 : l.length ≤ cnt fs) (h5 : ∀ (i : Nat) (x : Option EV), fs[i]? = some x → ∀ m, (G.ct c).2[i]? = some m → FR (VR G.K ρ H) x (l.lookup m)) (h6 : ∀ m, m ∉ (G.ct c).2 → l.lookup m = none) (hv : VR G.K ρ H v y) :
    Ext G.K ρ ρ H (upd H a (.ins (G.ct c).1 dx (putF f y l))) ∧ HR G ρ (upd H a (.ins (G.ct c).1 dx (putF f y l))) (eh.set n (.obj c (fs.set i (some v)))) := by
  have e : Ext G.K ρ ρ H (upd H a (.ins (G.ct c).1 dx (putF f y l))) := Ext.write _ hn ha (fun _ z => by cases z) fun _ _ z => by cases z
  have hil : i < fs.length := by rw [h3]; exact (List.getElem?_eq_some_iff.mp hi).1
  refine ⟨e, hr.write hn rfl e ⟨dx, _, upd_same, by rw [List.length_set]; exact h3, ?_, fun j x hx m hm => ?_, fun m hm => ?_⟩⟩
  · show _ ≤ cnt _
    obtain ⟨c1, c2⟩ := cnt_set (fs := fs) (i := i) v hil
    have hf := h5 i fs[i] (List.getElem?_eq_getElem hil) f hi
    cases q : fs[i] with
    | none =>
      have := c2 (by rw [List.getElem?_eq_getElem hil, q])
      have := length_putF f y l
      omega
    | some z =>
      rw [q] at hf
      cases w : l.lookup f with
      | none => rw [w] at hf; exact hf.elim
      | some z' => rw [putF_len w]; omega
  · rw [lookup_putF]
    by_cases hj : i = j
    · subst hj
      rw [List.getElem?_set_self hil] at hx
      cases hx
      rw [hi] at hm
      cases hm
      rw [if_pos rfl]
      exact VR.mono e _ _ hv
    · rw [List.getElem?_set_ne hj] at hx
      have hmf : m ≠ f := fun z => hj (by
        subst z
        exact nodup_at hc.nd hi hm)
      rw [if_neg hmf]
      exact (h5 j x hx m hm).mono fun x v => VR.mono e x v
  · rw [lookup_putF, if_neg (show ¬ m = f from fun z => hm (by rw [z]; exact List.mem_of_getElem? hi))]
    exact h6 m hm
end
def dFld (c i : Nat) (o : DE) : DE := fun es h => (o es h).bind fun x h1 => match x with
  | .ref n => match objAt c h1 n with
    | some fs => match fs[i]? with
      | some (some v) => .ok v h1
      | _ => .no
    | none => .no
  | _ => .no
def dSetF (c i : Nat) (o v : DE) : DS := fun es h => (v es h).bind fun y h1 => (o es h1).bind fun x h2 => match x with
  | .ref n => match objAt c h2 n with
    | some fs => .ok (.nx es) (h2.set n (.obj c (fs.set i (some y))))
    | none => .no
  | _ => .no
def dAugF (c i : Nat) (f : D2) (o v : DE) : DS := fun es h => (o es h).bind fun x h1 => match x with
  | .ref n => match objAt c h1 n with
    | some fs => match fs[i]? with
      | some (some w) => (v es h1).bind fun y h2 => (f w y h2).bind fun z h3 => match objAt c h3 n with
        | some fs' => .ok (.nx es) (h3.set n (.obj c (fs'.set i (some z))))
        | none => .no
      | _ => .no
    | none => .no
  | _ => .no
def dMeth (c : Nat) (fn : DL) (o : DE) (a : DA) : DE := fun es h => (o es h).bind fun x h1 => match x with
  | .ref n => match objAt c h1 n with
    | some _ => (a es h1).bind fun xs h2 => (fn (x :: xs) h2).noer
    | none => .no
  | _ => .no
def dMake (c nf : Nat) (fn : DL) (a : DA) : DE := fun es h => (a es h).bind fun xs h1 => (fn (.ref h1.length :: xs) (h1 ++ [.obj c (List.replicate nf none)])).noer.bind fun v h2 => match v with
  | .non => .ok (.ref h1.length) h2
  | _ => .no
section
variable {X : Cx} {ct : Nat → Addr × List Str} {E : XK} {e o : Expr} {es : List Expr} {pos p : Pos} {d dv : DE} {dr : DA} {f : Str}
theorem xe_fld (c i : Nat) (hc : Cd X.K (ct c)) (hi : (ct c).2[i]? = some f) (ho : PEd X ct E o d) (hb : attributeBase o f X.env (eval o X.env) = eval o X.env := by rfl) : PEd X ct E (.Attribute o f pos) (dFld c i d) := by
  obtain ⟨t, h1, h2⟩ := ho
  refine ⟨_, pe_fld h1 hb, fun ρ σ H es eh Q rel h => ?_⟩
  refine h2.bind rel h fun ρ1 H1 x eh1 u e1 rel1 v1 h1 => ?_
  split at h1
  · rename_i n
    split at h1
    · rename_i fs e2
      split at h1
      · rename_i v e3
        obtain ⟨a, dx, l, g1, g2, g3, g4, g5, g6, g7⟩ := obj_of rel1.hr e2
        obtain ⟨a', q1, rfl⟩ := vr_ref.mp v1
        rw [g1] at q1; cases q1
        have k := g6 i _ e3 f hi
        cases w : l.lookup f with
        | none => rw [w] at k; exact k.elim
        | some z =>
          rw [w] at k
          exact ⟨a, _, dx, l, z, rfl, g3, hc.cl, hc.no f (List.mem_of_getElem? hi), w, h1 ρ1 H1 _ (Ext.refl _ _ _) rel1.hr k⟩
      · exact h1.elim
    · exact h1.elim
  · exact h1.elim
theorem xs_fld {pos' : Pos} (c i : Nat) (hc : Cd X.K (ct c)) (hi : (ct c).2[i]? = some f) (ho : PEd X ct E o d) (hv : PEd X ct E e dv) (hs : swapsWith e (some (.Attribute o f pos')) pos.line X.env = pure false := by rfl) : PSd X ct E (.Assign [.Attribute o f pos'] e pos) (dSetF c i d dv) := by
  obtain ⟨t, h1, h2⟩ := ho
  obtain ⟨u, k1, k2⟩ := hv
  refine ⟨_, ps_fld h1 k1 hs, fun ρ σ H es eh D rel h => ?_⟩
  refine k2.bind rel h fun ρ1 H1 y eh1 w e1 rel1 v1 h1 => ?_
  refine h2.bind rel1 h1 fun ρ2 H2 x eh2 u e2 rel2 v2 h2 => ?_
  split at h2
  · rename_i n
    split at h2
    · rename_i fs e3
      obtain ⟨a, dx, l, g1, g2, g3, g4, g5, g6, g7⟩ := obj_of rel2.hr e3
      obtain ⟨a', q1, rfl⟩ := vr_ref.mp v2
      rw [g1] at q1; cases q1
      obtain ⟨e4, hr4⟩ := put_fld (v := y) rel2.hr hc hi g2 g3 g4 g5 g6 g7 (v1.mono e2)
      refine ⟨a, _, dx, l, rfl, g3, hc.cl, hc.no f (List.mem_of_getElem? hi), ?_, h2 ρ2 _ (.nx σ) e4 hr4 (rel2.sl.mono e4)⟩
      have := cnt_le fs
      have := hc.few
      have g4' : fs.length = (ct c).2.length := g4
      omega
    · exact h2.elim
  · exact h2.elim
theorem xs_fldaug {pos' : Pos} {op : Operator} {f2 : D2} (c i : Nat) (hc : Cd X.K (ct c)) (hi : (ct c).2[i]? = some f) (hop : Opd X ct E (inplaceOp op) f2) (ho : PEd X ct E o d) (hv : PEd X ct E e dv) : PSd X ct E (.AugAssign (.Attribute o f pos') op e pos) (dAugF c i f2 d dv) := by
  obtain ⟨t, h1, h2⟩ := ho
  obtain ⟨u, k1, k2⟩ := hv
  obtain ⟨r, r1, r2⟩ := hop
  refine ⟨_, ps_fldaug h1 k1 r1, fun ρ σ H es eh D rel h => ?_⟩
  refine h2.bind rel h fun ρ1 H1 x eh1 w e1 rel1 v1 h1 => ?_
  split at h1
  · rename_i n
    split at h1
    · rename_i fs e3
      split at h1
      · rename_i wv e4
        obtain ⟨a, dx, l, g1, g2, g3, g4, g5, g6, g7⟩ := obj_of rel1.hr e3
        obtain ⟨a', q1, rfl⟩ := vr_ref.mp v1
        rw [g1] at q1; cases q1
        have k := g6 i _ e4 f hi
        cases wl : l.lookup f with
        | none => rw [wl] at k; exact k.elim
        | some z =>
          rw [wl] at k
          refine ⟨a, _, dx, l, z, rfl, g3, hc.cl, hc.no f (List.mem_of_getElem? hi), wl, ?_⟩
          refine k2.bind rel1 h1 fun ρ2 H2 y eh2 yv e2 rel2 v2 h2 => ?_
          refine Snd2.bind r2 rel2.hr (VR.mono e2 _ _ k) v2 h2 fun ρ3 H3 zz eh3 zv e5 hr3 v3 h3 => ?_
          split at h3
          · rename_i fs' e6
            obtain ⟨a2, dx2, l2, j1, j2, j3, j4, j5, j6, j7⟩ := obj_of hr3 e6
            have ea : a2 = a := by
              have := (e2.trans e5).toExt0.get g1
              rw [j1] at this
              exact Option.some.inj this
            subst ea
            obtain ⟨e7, hr7⟩ := put_fld (v := zz) hr3 hc hi j2 j3 j4 j5 j6 j7 v3
            refine ⟨dx2, l2, j3, ?_, h3 ρ3 _ (.nx σ) e7 hr7 ((rel2.sl.mono e5).mono e7)⟩
            have := cnt_le fs'
            have := hc.few
            have j4' : fs'.length = (ct c).2.length := j4
            omega
          · exact h3.elim
      · exact h1.elim
    · exact h1.elim
  · exact h1.elim
end
section
variable {P : Program} {w : World} {K : PySem.W.Frag} {mg : Str → Option Value} {base : Heap} {ct : Nat → Addr × List Str}
def MethD (P : Program) (w : World) (K : Fg) (mg : Str → Option Value) (base : Heap) (ct : Nat → Addr × List Str) (k c : Nat) (m : Str) (fn : DL) : Prop := ∃ f fd ps, FnOk P w K mg base CX0 k f fd ps (spD0 ⟨K, ct⟩ fn) ∧ Meth K (ct c).1 m f ∧ Binds K fd ps []
def InitD (P : Program) (w : World) (K : Fg) (mg : Str → Option Value) (base : Heap) (ct : Nat → Addr × List Str) (k c : Nat) (fn : DL) : Prop := ∃ f fd ps, FnOk P w K mg base CX0 k f fd ps (spD0 ⟨K, ct⟩ fn) ∧ Mk K (ct c).1 f ∧ Binds K fd ps []
def TxM (K : Fg) (C : Addr) (m qual : Str) (st : Stmt) (ps : List Str) : Prop := ∃ f fd, Fun K m qual st f fd ∧ Meth K C m f ∧ Binds K fd ps []
def TxI (K : Fg) (C : Addr) (qual : Str) (st : Stmt) (ps : List Str) : Prop := ∃ f fd, Fun K "__init__" qual st f fd ∧ Mk K C f ∧ Binds K fd ps []
theorem methd_mk {c : Nat} {m qual : Str} {st : Stmt} {N ps : List Str} {k : Nat} {d : DS} (T : TxM K (ct c).1 m qual st ps) (S : FnScope N ps (defScope st))
    (h : ∀ (f : Addr) (cdv : Value) (A : Around) (outer : List Env) (s : Shared) (H : Hp) (E : XK), Room k (A.deeper (envOfC qual (defScope st) s.heap.objs.size f cdv)) → PSsd (cxOf CX0 P w K mg base N qual (defScope st) f cdv A outer s H E).nox ct E0 (defBody st) d) :
    MethD P w K mg base ct (k + 1) c m (dDef ps.length N.length d) := by
  obtain ⟨f, fd, F, hm, hb⟩ := T
  exact ⟨f, fd, ps, fn_d F S (h f), hm, hb⟩
theorem initd_mk {c : Nat} {qual : Str} {st : Stmt} {N ps : List Str} {k : Nat} {d : DS} (T : TxI K (ct c).1 qual st ps) (S : FnScope N ps (defScope st))
    (h : ∀ (f : Addr) (cdv : Value) (A : Around) (outer : List Env) (s : Shared) (H : Hp) (E : XK), Room k (A.deeper (envOfC qual (defScope st) s.heap.objs.size f cdv)) → PSsd (cxOf CX0 P w K mg base N qual (defScope st) f cdv A outer s H E).nox ct E0 (defBody st) d) :
    InitD P w K mg base ct (k + 1) c (dDef ps.length N.length d) := by
  obtain ⟨f, fd, F, hm, hb⟩ := T
  exact ⟨f, fd, ps, fn_d F S (h f), hm, hb⟩
theorem MethD.mono {j k c : Nat} {x : Str} {fn : DL} (F : MethD P w K mg base ct j c x fn) (h : j ≤ k) : MethD P w K mg base ct k c x fn := by
  obtain ⟨f, fd, ps, h1, h2⟩ := F
  exact ⟨f, fd, ps, h1.mono h, h2⟩
theorem InitD.mono {j k c : Nat} {fn : DL} (F : InitD P w K mg base ct j c fn) (h : j ≤ k) : InitD P w K mg base ct k c fn := by
  obtain ⟨f, fd, ps, h1, h2⟩ := F
  exact ⟨f, fd, ps, h1.mono h, h2⟩
end
section
variable {X : Cx} {ct : Nat → Addr × List Str} {E : XK} {e o : Expr} {es : List Expr} {pos p apos : Pos} {d : DE} {dr : DA} {m : Str}
theorem snd_meth {c k : Nat} {fn : DL} {to : TE} {ta : TA} (hn : m ∉ (ct c).2) (ho : SndE ⟨X.K, ct⟩ E to d) (ha : SndA ⟨X.K, ct⟩ E ta dr) : SndE ⟨X.K, ct⟩ E (tMeth (ct c).1 m (spD0 ⟨X.K, ct⟩ fn) [] E0 to ta) (dMeth c fn d dr) := fun ρ σ H es eh Q rel h => by
  refine ho.bind rel h fun ρ1 H1 x eh1 u e1 rel1 v1 h1 => ?_
  split at h1
  · rename_i n
    split at h1
    · rename_i fs e3
      obtain ⟨a, dx, l, g1, g2, g3, g4, g5, g6, g7⟩ := obj_of rel1.hr e3
      have v1' := v1
      obtain ⟨a', q1, rfl⟩ := vr_ref.mp v1
      rw [g1] at q1; cases q1
      refine ⟨a, dx, l, rfl, g3, g7 m hn, ?_⟩
      refine ha.bind rel1 h1 fun ρ2 H2 xs eh2 us e2 rel2 v2 h2 => ?_
      exact ⟨ρ2, .ref n :: xs, eh2, by rw [List.append_nil]; exact vrs_cons.mpr ⟨.ref a, us, rfl, VR.mono e2 _ _ v1', v2⟩, rel2.hr, wr_noer h2⟩
    · exact h1.elim
  · exact h1.elim
theorem xe_meth (c : Nat) {k : Nat} {fn : DL} (pl : Sem Bool) (hc : Cd X.K (ct c)) (F : MethD X.prog X.w X.K X.mg X.base ct k c m fn) (hr : Room k X.A) (hn : m ∉ (ct c).2) (ho : PEd X ct E o d) (ha : PAd X ct E (e :: es) dr)
    (hst : starEach (e :: es) X.env = (false, eval e X.env) :: starEach es X.env := by rfl) (hpl : (backTo pos (starEach es X.env)).any (·.1) = false := by rfl)
    (ht : eval (.Call (.Attribute o m apos) (e :: es) [] pos) X.env = (do
      let ov ← eval o X.env
      standAt apos.atName
      let (f, first) ← holding [ov] (getMethod ov m pl)
      callWith pos f first (backTo pos (starEach (e :: es) X.env)) (backToKw pos (keywordEach [] X.env))) := by rfl) :
    PEd X ct E (.Call (.Attribute o m apos) (e :: es) [] pos) (dMeth c fn d dr) := by
  obtain ⟨f, fd, ps, h1, hm, hb⟩ := F
  obtain ⟨t, a1, a2⟩ := ho
  obtain ⟨u, b1, b2⟩ := ha
  exact ⟨_, pe_meth (pl := pl) a1 hc.cl hm h1 hr hb .nil pass0 b1 hst hpl ht, snd_meth (k := k) hn a2 b2⟩
theorem xe_meth0 (c : Nat) {k : Nat} {fn : DL} (pl : Sem Bool) (hc : Cd X.K (ct c)) (F : MethD X.prog X.w X.K X.mg X.base ct k c m fn) (hr : Room k X.A) (hn : m ∉ (ct c).2) (ho : PEd X ct E o d)
    (ht : eval (.Call (.Attribute o m apos) [] [] pos) X.env = (do
      let ov ← eval o X.env
      standAt apos.atName
      let (f, first) ← holding [ov] (getMethod ov m pl)
      callWith pos f first (backTo pos (starEach [] X.env)) (backToKw pos (keywordEach [] X.env))) := by rfl) :
    PEd X ct E (.Call (.Attribute o m apos) [] [] pos) (dMeth c fn d dNil) := by
  obtain ⟨f, fd, ps, h1, hm, hb⟩ := F
  obtain ⟨t, a1, a2⟩ := ho
  exact ⟨_, pe_meth0 (pl := pl) a1 hc.cl hm h1 hr hb .nil pass0 ht, snd_meth (k := k) hn a2 snd_nil⟩
theorem xe_make (c : Nat) {k : Nat} {x : Str} {fn : DL} (F : InitD X.prog X.w X.K X.mg X.base ct k c fn) (hr : Room (k + 1) X.A) (hg : Gl X x) (hm : X.mg x = some (.ref (ct c).1)) (ha : PAd X ct E (e :: es) dr)
    (hdb : (x == ("__debug__" : Str)) = false := by decide) (he : starEach (e :: es) X.env = (false, eval e X.env) :: starEach es X.env := by rfl) (hpl : (backTo pos (starEach es X.env)).any (·.1) = false := by rfl) :
    PEd X ct E (.Call (.Name x p) (e :: es) [] pos) (dMake c (ct c).2.length fn dr) := by
  obtain ⟨f, fd, ps, h1, hM, hb⟩ := F
  obtain ⟨u, b1, b2⟩ := ha
  refine ⟨_, pe_make hM h1 hr hg hm hb .nil pass0 b1 hdb he hpl, fun ρ σ H es eh Q rel h => ?_⟩
  refine b2.bind rel h fun ρ1 H1 xs eh1 us e1 rel1 v1 h1 => ?_
  intro a dx na ndx nex
  have nadx : a ≠ dx := fun z => nex z.symm
  have hr1 := rel1.hr.side (HO.own a) ndx
  have e2 : Ext X.K ρ1 ρ1 H1 (upd H1 dx (.own a)) := Ext.side _ ndx
  have na2 : upd H1 dx (.own a) a = none := by rw [upd_ne nadx]; exact na
  have e3 : Ext X.K ρ1 (ρ1 ++ [(true, a)]) (upd H1 dx (.own a)) (upd (upd H1 dx (.own a)) a (.ins (ct c).1 dx [])) := Ext.alloc _ na2
  have ho : OR ⟨X.K, ct⟩ (ρ1 ++ [(true, a)]) (upd (upd H1 dx (.own a)) a (.ins (ct c).1 dx [])) (.obj c (List.replicate (ct c).2.length none)) a := by
    refine ⟨dx, [], upd_same, by simp, by simp, fun i x hx m hm => ?_, fun m _ => rfl⟩
    rw [List.getElem?_replicate] at hx
    split at hx
    · cases hx; exact True.intro
    · cases hx
  have hr3 := hr1.alloc na2 rfl ho
  have hl := rel1.hr.len
  have hv : VR X.K (ρ1 ++ [(true, a)]) (upd (upd H1 dx (.own a)) a (.ins (ct c).1 dx [])) (.ref eh1.length) (.ref a) := vr_ref.mpr ⟨a, last_get hl, rfl⟩
  refine ⟨ρ1 ++ [(true, a)], .ref eh1.length :: xs, eh1 ++ [.obj c (List.replicate (ct c).2.length none)], ?_, hr3, ?_⟩
  · rw [List.append_nil]
    exact vrs_cons.mpr ⟨.ref a, us, rfl, hv, VRs.mono (e2.trans e3) _ _ v1⟩
  · have h2 := h1.mono (e2.trans e3)
    cases q : fn (.ref eh1.length :: xs) (eh1 ++ [.obj c (List.replicate (ct c).2.length none)]) with
    | no => rw [q] at h2; exact h2
    | er z h' => rw [q] at h2; exact h2.elim
    | ok v h' =>
      rw [q] at h2
      intro ρ4 H4 vv e4 hr4 r4
      simp only [noer_ok, bind_ok] at h2
      split at h2
      · exact ⟨vr_non.mp r4, h2 ρ4 H4 (.ref a) e4 hr4 (VR.mono e4 _ _ hv)⟩
      · exact h2.elim
end
end EE
set_option Elab.async false
set_option linter.all false
set_option maxRecDepth 100000
set_option maxHeartbeats 1000000
namespace EE
open PySem PySem.Spec PyProof.Rows L2
section
variable {K : Fg} {ρ : Rho} {H H' : Hp}
mutual
theorem VR.monoT (ht : ∀ a xs, H a = some (.tup xs) → H' a = some (.tup xs)) : ∀ (x : EV) (v : V), VR K ρ H x v → VR K ρ H' x v
  | .non, v, h => by simp only [VR] at h ⊢; exact h
  | .bl b, v, h => by simp only [VR] at h ⊢; exact h
  | .int i, v, h => by simp only [VR] at h ⊢; exact h
  | .str s, v, h => by simp only [VR] at h ⊢; exact h
  | .ty n, v, h => by simp only [VR] at h ⊢; exact h
  | .ref n, v, h => by simp only [VR] at h ⊢; exact h
  | .tup xs, v, h => by
    simp only [VR] at h ⊢
    obtain ⟨a, vs, h1, h2, h3⟩ := h
    exact ⟨a, vs, h1, ht _ _ h2, VRs.monoT ht xs vs h3⟩
theorem VRs.monoT (ht : ∀ a xs, H a = some (.tup xs) → H' a = some (.tup xs)) : ∀ (xs : List EV) (vs : List V), VRs K ρ H xs vs → VRs K ρ H' xs vs
  | [], vs, h => by simp only [VRs] at h ⊢; exact h
  | x :: xs, vs, h => by
    simp only [VRs] at h ⊢
    obtain ⟨v, r, h1, h2, h3⟩ := h
    exact ⟨v, r, h1, VR.monoT ht x v h2, VRs.monoT ht xs r h3⟩
end
end
section
variable {G : Gx} {ρ ρ' : Rho} {H H' : Hp} {eh : EH} {n : Nat} {a : Addr} {u : HO} {od : Obj} {t : Bool} {kvs : List (EV × EV)}
theorem OR.keepT (ht : ∀ b xs, H b = some (.tup xs) → H' b = some (.tup xs)) (hq : ∀ b vs, RoL G.K H b vs → RoL G.K H' b vs) {o : EO} {b : Addr} (hb : o.mu = true → H' b = H b) (h : OR G ρ H o b) : OR G ρ H' o b := by
  have m := fun x v => VR.monoT (K := G.K) (ρ := ρ) ht x v
  cases o with
  | lst xs =>
    obtain ⟨vs, h1, h2⟩ := h
    exact ⟨vs, by rw [hb rfl]; exact h1, VRs.monoT ht _ _ h2⟩
  | ro xs =>
    obtain ⟨vs, h1, h2⟩ := h
    exact ⟨vs, hq _ _ h1, VRs.monoT ht _ _ h2⟩
  | dic t kvs =>
    obtain ⟨u, h1, h2⟩ := h
    exact ⟨u, by rw [hb rfl]; exact h1, h2.mono m⟩
  | lkd t kvs =>
    obtain ⟨f, u, h1, h2⟩ := h
    exact ⟨f, u, by rw [hb rfl]; exact h1, h2.mono m⟩
  | obj c fs =>
    obtain ⟨dx, l, h1, h2, h3, h4, h5⟩ := h
    exact ⟨dx, l, by rw [hb rfl]; exact h1, h2, h3, fun i x hx n hn => (h4 i x hx n hn).mono m, h5⟩
theorem DR.nlst {R : EV → V → Prop} : ∀ {t : Bool} {kvs : List (EV × EV)} {u : HO}, DR R t kvs u → ∀ xs, u ≠ .lst xs
  | false, _, _, ⟨l, e, q⟩, _, z => by subst e; cases z
  | true, _, _, ⟨l, e, q⟩, _, z => by subst e; cases z
theorem lock_dic (hr : HR G ρ H eh) (hn : ρ[n]? = some (true, a)) (ha : H a = some u) (hd : DR (VR G.K ρ H) t kvs u) (od : Obj) : Ext G.K ρ ρ H (upd H a (.frz od u)) ∧ HR G ρ (upd H a (.frz od u)) (eh.set n (.lkd t kvs)) := by
  have e : Ext G.K ρ ρ H (upd H a (.frz od u)) := Ext.write _ hn ha hd.ntup hd.nfrz
  exact ⟨e, hr.write hn rfl e ⟨od, u, upd_same, hd.mono fun x v => VR.mono e x v⟩⟩
theorem unlock_ext (hn : (true, a) ∈ ρ) (ha : H a = some u) (h1 : ∀ xs, u ≠ .tup xs) (h2 : ∀ o v, u ≠ .frz o v) (e : Ext G.K ρ ρ' (upd H a (.frz od u)) H') : Ext G.K ρ ρ' H (upd H' a u) where
  pre := e.pre
  tup := fun b xs h => by
    have nb : b ≠ a := fun z => by subst z; rw [ha] at h; cases h; exact h1 _ rfl
    rw [upd_ne nb]
    exact e.tup _ _ (by rw [upd_ne nb]; exact h)
  frz := fun b o v h => by
    have nb : b ≠ a := fun z => by subst z; rw [ha] at h; cases h; exact h2 _ _ rfl
    rw [upd_ne nb]
    exact e.frz _ _ _ (by rw [upd_ne nb]; exact h)
  new := fun b hb => by
    rcases e.new b hb with z | z
    · exact .inl z
    · right
      have nb : b ≠ a := fun q => by subst q; rw [upd_same] at z; cases z
      rw [upd_ne nb] at z
      exact z
  rest := fun b o h hb => by
    have nb : b ≠ a := fun q => by subst q; exact hb hn
    rw [upd_ne nb]
    exact e.rest _ _ (by rw [upd_ne nb]; exact h) hb
theorem unlock_hr (hr : HR G ρ' H' eh) (hn : ρ'[n]? = some (true, a)) (ha : H' a = some (.frz od u)) (hd : DR (VR G.K ρ' H') t kvs u) : HR G ρ' (upd H' a u) (eh.set n (.dic t kvs)) := by
  have ht : ∀ b xs, H' b = some (.tup xs) → upd H' a u b = some (.tup xs) := fun b xs h => by
    rw [upd_ne (fun z => by subst z; rw [ha] at h; cases h)]
    exact h
  have hq : ∀ b vs, RoL G.K H' b vs → RoL G.K (upd H' a u) b vs := fun b vs h => by
    rcases h with ⟨o, h⟩ | h
    · refine .inl ⟨o, ?_⟩
      rw [upd_ne (fun z => by
        subst z
        rw [ha] at h
        cases h
        exact hd.nlst _ rfl)]
      exact h
    · exact .inr h
  refine ⟨by rw [List.length_set]; exact hr.len, hr.dis, fun j z hz => ?_⟩
  by_cases hj : n = j
  · subst hj
    have hl : n < eh.length := by
      have := (List.getElem?_eq_some_iff.mp hz).1
      simpa using this
    rw [List.getElem?_set_self hl] at hz
    cases hz
    exact ⟨a, hn, u, upd_same, hd.mono fun x v => VR.monoT ht x v⟩
  · rw [List.getElem?_set_ne hj] at hz
    obtain ⟨b, hb, hO⟩ := hr.obj j z hz
    refine ⟨b, hb, hO.keepT ht hq fun hm => upd_ne fun q => hj ?_⟩
    subst q
    rw [hm] at hb
    exact hr.dis n j b hn hb
end
def lkAt (h : EH) (n : Nat) : Option (Bool × List (EV × EV)) := match h[n]? with
  | some (.lkd t kvs) => some (t, kvs)
  | _ => none
def rLock {α : Type} (sel : DE) (es : ES) (h : EH) (k : EH → Res α) : Res α := match sel es h with
  | .ok (.ref n) _ => match mdicAt h n with
    | some (t, kvs) => (k (h.set n (.lkd t kvs))).noer.bind fun v h1 => match lkAt h1 n with
      | some (t', kvs') => .ok v (h1.set n (.dic t' kvs'))
      | none => .no
    | none => .no
  | _ => .no
def dLockE (sel d : DE) : DE := fun es h => rLock sel es h fun h1 => d es h1
def dLockS (sel : DE) (d : DS) : DS := fun es h => rLock sel es h fun h1 => d es h1
section
variable {G : Gx} {E : XK}
theorem lk_of {ρ : Rho} {H : Hp} {eh : EH} {n : Nat} {t : Bool} {kvs : List (EV × EV)} (hr : HR G ρ H eh) (h : lkAt eh n = some (t, kvs)) : ∃ a f u, ρ[n]? = some (true, a) ∧ H a = some (.frz f u) ∧ DR (VR G.K ρ H) t kvs u := by
  unfold lkAt at h
  split at h
  · rename_i t ys e
    cases h
    obtain ⟨a, h1, f, u, h2, h3⟩ := hr.obj n _ e
    exact ⟨a, f, u, h1, h2, h3⟩
  · cases h
theorem lock_any {α β : Type} {R : Rho → Hp → α → β → Prop} (hR : ∀ ρ H H' x v, (∀ a xs, H a = some (.tup xs) → H' a = some (.tup xs)) → R ρ H x v → R ρ H' x v) {sel : DE} {k : EH → Res α} {ρ : Rho} {σ : L2.St} {H : Hp} {es : ES} {eh : EH} {Q : β → Hp → Prop}
    (rel : Rel G ρ σ H es eh) (h : wr G R ρ H (rLock sel es eh k) Q E) :
    ∃ d u, H d = some u ∧ L2.Mut (some u) ∧ ∀ od, ∃ eh1, Rel G ρ σ (upd H d (.frz od u)) es eh1 ∧ wr G R ρ (upd H d (.frz od u)) (k eh1) (fun v H' => H' d = some (.frz od u) ∧ Q v (upd H' d u)) E := by
  unfold rLock at h
  split at h
  · rename_i n _ _
    split at h
    · rename_i t kvs e1
      obtain ⟨a, u, g1, g2, g3, g4⟩ := mdic_of rel.hr e1
      refine ⟨a, u, g2, g3.mt, fun od => ⟨eh.set n (.lkd t kvs), ?_⟩⟩
      obtain ⟨e2, hr2⟩ := lock_dic rel.hr g4 g2 g3 od
      refine ⟨rel.ext e2 hr2, ?_⟩
      cases q : k (eh.set n (.lkd t kvs)) with
      | no => rw [q] at h; exact h
      | er z h' => rw [q] at h; exact h.elim
      | ok v h' =>
        rw [q] at h
        simp only [noer_ok, bind_ok] at h
        intro ρ' H' w e hr' r
        have hfz := e.frz _ _ _ upd_same
        refine ⟨hfz, ?_⟩
        split at h
        · rename_i t' kvs' e3
          obtain ⟨a', f', u', j1, j2, j3⟩ := lk_of hr' e3
          have ea := e.toExt0.at g4
          rw [j1] at ea
          cases ea
          rw [hfz] at j2
          cases j2
          refine h ρ' _ w (unlock_ext (List.mem_of_getElem? g4) g2 g3.ntup g3.nfrz e) (unlock_hr hr' j1 hfz j3) (hR _ _ _ _ _ (fun b xs hb => ?_) r)
          rw [upd_ne (fun z => by subst z; rw [hfz] at hb; cases hb)]
          exact hb
        · exact h.elim
    · exact h.elim
  · exact h.elim
variable {X : Cx} {ct : Nat → Addr × List Str} {e : Expr} {st : Stmt} {d sel : DE} {ds : DS}
theorem xe_lock (sel : DE) (h : PEd X ct E e d) : PEd X ct E e (dLockE sel d) := by
  obtain ⟨t, h1, h2⟩ := h
  refine ⟨_, pe_lock h1, fun ρ σ H es eh Q rel hw => ?_⟩
  obtain ⟨a, u, g1, g2, g3⟩ := lock_any (R := VR X.K) (k := fun h1 => d es h1) (fun ρ H H' x v ht r => VR.monoT ht x v r) rel hw
  refine ⟨a, u, g1, g2, fun od => ?_⟩
  obtain ⟨eh1, rel1, w1⟩ := g3 od
  exact h2 ρ σ _ es eh1 _ rel1 w1
theorem xs_lock (sel : DE) (h : PSd X ct E st ds) : PSd X ct E st (dLockS sel ds) := by
  obtain ⟨t, h1, h2⟩ := h
  refine ⟨_, ps_lock h1, fun ρ σ H es eh D rel hw => ?_⟩
  obtain ⟨a, u, g1, g2, g3⟩ := lock_any (R := RF ⟨X.K, ct⟩) (fun ρ H H' x v ht r => by
    have key : ∀ {es : ES} {σ : L2.St}, SR X.K ρ H es σ → SR X.K ρ H' es σ := fun q => ⟨q.1, fun i v hv => by
      obtain ⟨u, h1, h2⟩ := q.2 i v hv
      exact ⟨u, h1, VR.monoT ht _ _ h2⟩⟩
    cases x with
    | nx es => cases v with
      | nx σ => exact key r
      | _ => exact r.elim
    | rt x => cases v with
      | rt v => exact VR.monoT ht _ _ r
      | _ => exact r.elim
    | bk es => cases v with
      | bk σ => exact key r
      | _ => exact r.elim
    | ct es => cases v with
      | ct σ => exact key r
      | _ => exact r.elim) rel hw
  refine ⟨a, u, g1, g2, fun od => ?_⟩
  obtain ⟨eh1, rel1, w1⟩ := g3 od
  refine h2 ρ σ _ es eh1 _ rel1 ?_
  cases q : ds es eh1 with
  | no => rw [q] at w1; exact w1
  | er z h' => rw [q] at w1; exact w1
  | ok v h' =>
    rw [q] at w1
    intro ρ' H' w e hr r
    have := w1 ρ' H' w e hr r
    cases w <;> exact this
end
def dItK (a : DE) : DI := fun es h => (a es h).bind fun x h1 => match x with
  | .ref n => match lkAt h1 n with
    | some (_, kvs) => .ok ⟨none, kvs.map (·.1), fun _ x => x⟩ h1
    | none => .no
  | _ => .no
section
variable {X : Cx} {ct : Nat → Addr × List Str} {E : XK} {G : Gx} {a tg : Expr} {da : DE}
theorem snd_itK {tl : TE} (ha : SndE G E tl da) : SndI G E (iKeys tl) (dItK da) := fun ρ σ H es eh Q rel h => by
  refine ha.bind rel h fun ρ1 H1 x eh1 v e1 rel1 v1 h1 => ?_
  split at h1
  · rename_i n
    split at h1
    · rename_i t kvs e2
      obtain ⟨p, f, u, g1, g2, g3⟩ := lk_of rel1.hr e2
      obtain ⟨p', q1, rfl⟩ := vr_ref.mp v1
      rw [adr_of g1] at q1; cases q1
      refine ⟨p, f, rfl, ?_⟩
      cases t with
      | false =>
        obtain ⟨l, rfl, hk⟩ := g3
        refine .inl ⟨l, g2, h1 ρ1 H1 _ (Ext.refl _ _ _) rel1.hr fun ρ' H' eh' xs e hr hc => ?_⟩
        cases hc
        have hz := e.frz _ _ _ g2
        refine ⟨fun i x hx => ?_, fun i hx => ?_⟩
        · rw [List.getElem?_map] at hx
          obtain ⟨p0, hp, rfl⟩ := Option.map_eq_some_iff.mp hx
          obtain ⟨k, w, k1, k2, k3⟩ := hk.at hp
          refine ⟨⟨hz, (List.getElem?_eq_some_iff.mp k1).1⟩, fun y H3 hy => ?_⟩
          obtain ⟨rfl, k', w', k1', rfl⟩ := hy
          rw [k1] at k1'
          cases k1'
          exact ⟨Ext.refl _ _ _, hr, keyOf_vr k2⟩
        · rw [List.getElem?_map, Option.map_eq_none_iff, List.getElem?_eq_none_iff] at hx
          exact ⟨hz, by rw [← hk.len]; exact hx⟩
      | true =>
        obtain ⟨l, rfl, hk⟩ := g3
        refine .inr ⟨l, g2, h1 ρ1 H1 _ (Ext.refl _ _ _) rel1.hr fun ρ' H' eh' xs e hr hc => ?_⟩
        cases hc
        have hz := e.frz _ _ _ g2
        refine ⟨fun i x hx => ?_, fun i hx => ?_⟩
        · rw [List.getElem?_map] at hx
          obtain ⟨p0, hp, rfl⟩ := Option.map_eq_some_iff.mp hx
          obtain ⟨k, w, k1, k2, k3⟩ := hk.at hp
          refine ⟨⟨hz, (List.getElem?_eq_some_iff.mp k1).1⟩, fun y H3 hy => ?_⟩
          obtain ⟨rfl, k', w', b, k1', rfl, hb⟩ := hy
          rw [k1] at k1'
          cases k1'
          exact ⟨Ext.refl _ _ _, hr, tkeyOf_vr k2 hb⟩
        · rw [List.getElem?_map, Option.map_eq_none_iff, List.getElem?_eq_none_iff] at hx
          exact ⟨hz, by rw [← hk.len]; exact hx⟩
    · exact h1.elim
  · exact h1.elim
theorem xi_keys (h : PEd X ct E a da) : PId X ct E tg a (dItK da) := by
  obtain ⟨t, h1, h2⟩ := h
  exact ⟨_, pi_keys h1, snd_itK h2⟩
end
def fKeysT : DL := fun xs h => match xs with
  | [.ref n] => match dicAt h n with
    | some (true, kvs) => .ok (.ref h.length) (h ++ [.lst (kvs.map (·.1))])
    | _ => .no
  | _ => .no
def fTupL : DL := fun xs h => match xs with
  | [.ref n] => match lstAt h n with
    | some ys => .ok (.tup ys) h
    | none => .no
  | _ => .no
section
variable {X : Cx} {ct : Nat → Addr × List Str} {E : XK} {G : Gx}
theorem keys_vrs {K : Fg} {ρ : Rho} {H : Hp} {R : EV → V → Prop} : ∀ {kvs : List (EV × EV)} {l : List (List Key × V)} {bs : List Addr}, KR tkeyOf R kvs l → IsKeys H l bs → VRs K ρ H (kvs.map (·.1)) (bs.map V.ref)
  | [], _, bs, h, q => by
    rw [h] at q
    cases bs with
    | nil => exact vrs_nil.mpr rfl
    | cons b bs => cases q
  | p :: ps, _, bs, ⟨k, v, r, e, h1, h2, h3⟩, q => by
    subst e
    cases q with
    | cons hb hr => exact vrs_cons.mpr ⟨_, _, rfl, tkeyOf_vr h1 hb, keys_vrs h3 hr⟩
theorem c_keysT (hc : X.calm = true) : Cld X ct E (.type "list") fKeysT := ⟨_, call_list_dT hc, fun ρ H eh xs as Q hr hx h => by
  unfold fKeysT at h
  split at h
  · rename_i n
    split at h
    · rename_i kvs e1
      obtain ⟨v, rfl, hv⟩ := vrs_one hx
      obtain ⟨a, u, g1, g2, g3⟩ := dic_of hr e1
      obtain ⟨a', q1, rfl⟩ := vr_ref.mp hv
      rw [g1] at q1; cases q1
      obtain ⟨l, rfl, hk⟩ := g3
      exact ⟨a, l, rfl, g2, fun p bs hp hb => new_lst hr (keys_vrs hk hb) h p hp⟩
    · exact h.elim
  · exact h.elim⟩
theorem c_tupL : Cld X ct E (.type "tuple") fTupL := ⟨_, call_tuple_of, fun ρ H eh xs as Q hr hx h => by
  unfold fTupL at h
  split at h
  · rename_i n
    split at h
    · rename_i ys e1
      obtain ⟨v, rfl, hv⟩ := vrs_one hx
      obtain ⟨a, vs, g1, g2, g3⟩ := lst_of hr e1
      obtain ⟨a', q1, rfl⟩ := vr_ref.mp hv
      rw [g1] at q1; cases q1
      refine ⟨a, vs, rfl, .inl ⟨g2, fun l hl => ?_⟩⟩
      exact h ρ _ _ (Ext.side _ hl) (hr.side _ hl) (vr_tup.mpr ⟨l, vs, rfl, upd_same, VRs.mono (Ext.side _ hl) _ _ g3⟩)
    · exact h.elim
  · exact h.elim⟩
end
end EE
set_option Elab.async false
set_option linter.all false
set_option maxRecDepth 100000
set_option maxHeartbeats 1000000
namespace EE
open PySem PySem.Spec PyProof.Rows L2 SrtO Srt
def pairAt (H : Hp) (b : Addr) : Int × Int := match H b with
  | some (.tup [.int i, .int j]) => (i, j)
  | _ => (0, 0)
def pv (H : Hp) : Value → Int × Int
  | .ref b => pairAt H b
  | _ => (0, 0)
def lexLe (p q : Int × Int) : Bool := !lexB q p
theorem lexLe_iff {p q : Int × Int} : lexLe p q = true ↔ p.1 < q.1 ∨ (p.1 = q.1 ∧ p.2 ≤ q.2) := by
  unfold lexLe
  rw [Bool.not_eq_true', lexB_no]
  omega
def psort (l : List (Int × Int)) : List (Int × Int) := l.mergeSort lexLe
theorem psort_perm (l : List (Int × Int)) : (psort l).Perm l := List.mergeSort_perm l _
theorem psort_pw (l : List (Int × Int)) : (psort l).Pairwise fun p q => lexLe p q = true := List.pairwise_mergeSort (fun a b c h1 h2 => by
  rw [lexLe_iff] at h1 h2 ⊢
  omega) (fun a b => by
  rw [Bool.or_eq_true, lexLe_iff, lexLe_iff]
  omega) l
theorem psort_eq {l m : List (Int × Int)} (h : m.Perm l) (hp : m.Pairwise fun p q => lexLe p q = true) : m = psort l := List.Perm.eq_of_pairwise (le := fun p q => lexLe p q = true) (fun a b _ _ h1 h2 => by
  rw [lexLe_iff] at h1 h2
  exact Prod.ext (by omega) (by omega)) hp (psort_pw l) (h.trans (psort_perm l).symm)
def isort (l : List Int) : List Int := l.mergeSort fun a b => decide (a ≤ b)
theorem isort_perm (l : List Int) : (isort l).Perm l := List.mergeSort_perm l _
theorem isort_pw (l : List Int) : (isort l).Pairwise (· ≤ ·) := (List.pairwise_mergeSort (le := fun a b : Int => decide (a ≤ b)) (fun a b c h1 h2 => by simp only [decide_eq_true_eq] at *; omega) (fun a b => by simp only [Bool.or_eq_true, decide_eq_true_eq]; omega) l).imp fun h => by simpa using h
theorem isort_eq {l m : List Int} (h : m.Perm l) (hp : m.Pairwise (· ≤ ·)) : m = isort l := List.Perm.eq_of_pairwise (le := (· ≤ ·)) (fun a b _ _ h1 h2 => by omega) hp (isort_pw l) (h.trans (isort_perm l).symm)
section
variable {X : Cx}
def rSortDT : List V → Hp → VK → Prop := fun xs H Q => ∃ (a : Addr) (kvs : List (List Key × V)), xs = [.ref a] ∧ Rd H a (.dT kvs) ∧ (∀ p ∈ kvs, ∃ i j : Int, p.1 = [.inl i, .inl j]) ∧
  ∀ (bs ys : List Addr) (p : Addr), IsKeys H kvs bs → ys.Perm bs → (ys.map (pairAt H)).Pairwise (fun p q => lexLe p q = true) → H p = none → Q (.ref p) (upd H p (.lst (ys.map V.ref)))
theorem isKeys_at {H : Hp} : ∀ {kvs : List (List Key × V)} {bs : List Addr}, IsKeys H kvs bs → ∀ b ∈ bs, ∃ p ∈ kvs, H b = some (.tup (p.1.map kV))
  | _, _, .nil, b, h => absurd h (by simp)
  | _, _, .cons (a := p) hb hr, b, h => by
    rcases List.mem_cons.mp h with e | h
    · subst e
      exact ⟨p, List.mem_cons_self, hb⟩
    · obtain ⟨q, hq, e⟩ := isKeys_at hr b h
      exact ⟨q, List.mem_cons_of_mem _ hq, e⟩
theorem call_sortedDT (hcalm : X.calm = true) : CallR X (.builtin "sorted") rSortDT := by
  intro pins s σ H xs us Q I r h
  obtain ⟨d, kvs, rfl, hd, hk, q⟩ := h
  obtain ⟨u, rfl, rx⟩ := r.one
  cases rx
  obtain ⟨z, hsys, raw, hpr, o, ents, ep, ho, hx, hdat, he, hn⟩ := (show ObjOk X.prog X.w H s.heap d (.dT kvs) from hd.ok I.hok)
  have c1 : ents.size = raw.length := size_of_entries he
  have c2 : kvs.length = raw.length := Paired.length hpr
  have h16 : ents.size ≤ sizeLine := by omega
  refine Calls.call_function_entry PyProof.Rows.kind_sorted PyProof.Rows.plain_sorted PyProof.Rows.entry_sorted (PyProof.Rows.args_sorted1 _) ?_
  unfold Builtin.«sorted»
  refine wpAny_bind (m := checkCount "sorted" 1 1 _) (wpAny_pure ?_)
  refine wpAny_bind (PySem.W.kdu_collect (A := X.A.in1) (kdl_raw hsys hx hdat) (I.ok.hd hcalm) ho h16 fun h' tk got stay walked => ?_)
  have ea : got.toList = raw.map fun x => Value.ref x.2.1 := by
    have hl : got.toList.length = raw.length := by rw [Array.length_toList, walked.1]; exact c1
    apply List.ext_getElem?
    intro j
    rw [List.getElem?_map]
    cases hjj : got.toList[j]? with
    | none =>
      have h1 := List.getElem?_eq_none_iff.mp hjj
      rw [List.getElem?_eq_none (by omega)]
      all_goals rfl
    | some v =>
      obtain ⟨ent, hent, hv⟩ := walked.2 j v (by rw [← Array.getElem?_toList]; exact hjj)
      have heq := entry_at he j
      rw [hent] at heq
      cases hbb : raw[j]? with
      | none =>
        rw [hbb] at heq
        exact nomatch (show some ent = none from heq)
      | some b =>
        rw [hbb] at heq
        have e2 := Option.some.inj heq
        rw [hv, e2]
        all_goals rfl
  generalize hbs : (raw.map fun x => x.2.1) = bs at *
  have eb : got.toList = bs.map Value.ref := by rw [ea, ← hbs, List.map_map]; all_goals rfl
  have hK : IsKeys H kvs bs := by rw [← hbs]; exact isKeys_of hpr
  have hlen : got.toList.length = bs.length := by rw [eb, List.length_map]
  have hbl : bs.length = raw.length := by rw [← hbs, List.length_map]
  have I1 : Inv X pins σ H { s with heap := h', toks := tk } := I.kept stay
  have hL : got.toList.length ≤ sizeLine := by omega
  refine wpAny_bind (wpAny_newList ?_ hL)
  have hgl : (h'.push (seqObj "list" got.toList.toArray 0)).get? h'.objs.size = some (seqObj "list" got.toList.toArray 0) := Heap.get?_push_size _ rfl
  show wpAny _ _ _ _ _ { s with heap := h'.push (seqObj "list" got.toList.toArray 0), toks := tk }
  have hp : ∀ v ∈ got.toList, IsPair (h'.push (seqObj "list" got.toList.toArray 0)) v (pv H v).1 (pv H v).2 := fun v hv => by
    rw [eb] at hv
    obtain ⟨b, hbb, rfl⟩ := List.mem_map.mp hv
    obtain ⟨p, hpm, hHb⟩ := isKeys_at hK b hbb
    obtain ⟨i, j, hij⟩ := hk p hpm
    rw [hij] at hHb
    have epv : pv H (.ref b) = (i, j) := by
      show pairAt H b = (i, j)
      unfold pairAt
      rw [hHb]
      rfl
    rw [epv]
    obtain ⟨_, its2, r2, o2, ho2, hc2, n2, hd2⟩ := I1.hok b _ hHb
    obtain ⟨w1, w2, rfl, r1, r2b⟩ := vals2 r2
    obtain ⟨t1, rfl⟩ := r1
    obtain ⟨t2, rfl⟩ := r2b
    exact ⟨b, o2, t1, t2, n2, rfl, Heap.get?_push_of_some _ ho2, hc2, hd2⟩
  refine wpAny_bind (wpAny_holding (wpAny_call_entry PyProof.Rows.slot_list_sort ⟨_, hgl, rfl⟩ PyProof.Rows.entry_list_sort
    (SrtO.list_sort_ord (s := { s with heap := h'.push (seqObj "list" got.toList.toArray 0), toks := tk }) (SrtO.swo_lex fun u => pv H u) hgl hL (fun h2 => SrtO.pairs_sortableO (by omega) hp fun o e => ?_) fun out h1 h2 => ⟨_, rfl, ?_⟩) (PyProof.Rows.args_list_sort _)))
  · have e' : some o = some (seqObj "list" got.toList.toArray 0) := e.symm.trans hgl
    cases e'
    intro c
    exact absurd (Value.type.inj c) (by decide)
  · obtain ⟨e', he'⟩ := PyProof.Rows.sortedHeap_at (vs := got.toList) (out := out.toArray) hgl
    obtain ⟨ys, hys⟩ : ∃ ys : List Addr, out = ys.map Value.ref := by
      refine ⟨out.map fun v => match v with | .ref b => b | _ => 0, ?_⟩
      rw [List.map_map]
      refine (List.map_id' out).symm.trans (List.map_congr_left fun v hv => ?_)
      have hm := h2.perm.mem_iff.mp hv
      rw [eb] at hm
      obtain ⟨b, _, rfl⟩ := List.mem_map.mp hm
      rfl
    have hperm : ys.Perm bs := by
      have := h2.perm
      rw [hys, eb] at this
      have h3 := this.map fun v => match v with | .ref b => b | _ => 0
      rw [List.map_map, List.map_map] at h3
      have e3 : ∀ l : List Addr, l.map ((fun v => match v with | Value.ref b => b | _ => 0) ∘ Value.ref) = l := fun l => by
        rw [show ((fun v => match v with | Value.ref b => b | _ => 0) ∘ Value.ref) = id from rfl, List.map_id]
      rw [e3, e3] at h3
      exact h3
    have hsort : (ys.map (pairAt H)).Pairwise (fun p q => lexLe p q = true) := by
      rw [List.pairwise_map]
      have h3 := h1
      rw [hys] at h3
      have h4 := List.pairwise_map.mp h3
      refine h4.imp fun {x y} hxy => ?_
      have hxy : lexB (pairAt H y) (pairAt H x) = false := hxy
      unfold lexLe
      rw [hxy]
      rfl
    have hz : (ys.map V.ref).length ≤ sizeLine := by
      rw [List.length_map, hperm.length_eq]
      omega
    refine wpAny_pure ⟨_, rfl, .ref h'.objs.size, upd H h'.objs.size (.lst (ys.map V.ref)), I1.laid (t' := tk) (fun b u e => ?_) (Nat.le_refl _)
      (show ObjOk X.prog X.w _ _ _ (.lst (ys.map V.ref)) from ⟨hz, out, e', by rw [hys]; exact vals_refs ys, he'⟩), rfl, q bs ys _ hK hperm hsort (I1.hok.fresh (Nat.le_refl _))⟩
    have hbb : b < h'.objs.size := Heap.lt_size e
    rw [PyProof.Rows.sortedHeap_old (Nat.ne_of_lt hbb) (by rw [size_push']; exact Nat.lt_succ_of_lt hbb)]
    exact Heap.get?_push_of_some _ e
end
def intsE : List EV → Option (List Int)
  | [] => some []
  | x :: r => match x, intsE r with
    | .int i, some l => some (i :: l)
    | _, _ => none
def pairsE : List EV → Option (List (Int × Int))
  | [] => some []
  | x :: r => match x, pairsE r with
    | .tup [.int i, .int j], some l => some ((i, j) :: l)
    | _, _ => none
def pairE (p : Int × Int) : EV := .tup [.int p.1, .int p.2]
theorem intsE_map : ∀ (l : List Int), intsE (l.map EV.int) = some l
  | [] => rfl
  | x :: l => by simp only [List.map_cons, intsE, intsE_map l]
theorem intsE_eq : ∀ {xs : List EV} {l : List Int}, intsE xs = some l → xs = l.map EV.int
  | [], l, h => by cases h; rfl
  | x :: r, l, h => by
    unfold intsE at h
    split at h
    · rename_i i m e
      cases h
      rw [intsE_eq e]
      rfl
    · cases h
theorem pairsE_map : ∀ (l : List (Int × Int)), pairsE (l.map pairE) = some l
  | [] => rfl
  | x :: l => by
    have ih := pairsE_map l
    simp only [List.map_cons, pairE, pairsE] at ih ⊢
    rw [ih]
theorem pairsE_eq : ∀ {xs : List EV} {l : List (Int × Int)}, pairsE xs = some l → xs = l.map pairE
  | [], l, h => by cases h; rfl
  | x :: r, l, h => by
    unfold pairsE at h
    split at h
    · rename_i i j m e
      cases h
      rw [pairsE_eq e]
      rfl
    · cases h
def fSortI : DL := fun xs h => match xs with
  | [.ref n] => match lstAt h n with
    | some ys => match intsE ys with
      | some l => .ok (.ref h.length) (h ++ [.lst ((isort l).map EV.int)])
      | none => .no
    | none => .no
  | _ => .no
def fSortT : DL := fun xs h => match xs with
  | [.ref n] => match dicAt h n with
    | some (true, kvs) => match pairsE (kvs.map (·.1)) with
      | some l => .ok (.ref h.length) (h ++ [.lst ((psort l).map pairE)])
      | none => .no
    | _ => .no
  | _ => .no
def fSortD : DL := fun xs h => match xs with
  | [.ref n] => match dicAt h n with
    | some (false, kvs) => match intsE (kvs.map (·.1)) with
      | some l => if l.length < 64 then .ok (.ref h.length) (h ++ [.lst ((isort l).map EV.int)]) else .no
      | none => .no
    | _ => .no
  | _ => .no
theorem KR.keys {κ : Type} {f : EV → Option κ} {R : EV → V → Prop} : ∀ {ps : List (EV × EV)} {l : List (κ × V)}, KR f R ps l → ps.map (fun p => f p.1) = l.map fun p => some p.1
  | [], _, h => by rw [h]; rfl
  | p :: ps, _, ⟨k, v, r, e, h1, h2, h3⟩ => by
    subst e
    rw [List.map_cons, List.map_cons, KR.keys h3, h1]
theorem keyOf_ints : ∀ {xs : List EV} {l : List Int} {ks : List Key}, intsE xs = some l → xs.map keyOf = ks.map some → ks = l.map Sum.inl
  | [], l, ks, h, e => by
    cases h
    simpa using e.symm
  | x :: r, l, ks, h, e => by
    unfold intsE at h
    split at h
    · rename_i i m q
      cases h
      cases ks with
      | nil => simp at e
      | cons k ks =>
        simp only [List.map_cons, List.cons.injEq] at e
        have := e.1
        unfold keyOf at this
        cases this
        rw [keyOf_ints q e.2]
        rfl
    · cases h
theorem tkeyOf_pairs : ∀ {xs : List EV} {l : List (Int × Int)} {ks : List (List Key)}, pairsE xs = some l → xs.map tkeyOf = ks.map some → ks = l.map fun p => [Sum.inl p.1, Sum.inl p.2]
  | [], l, ks, h, e => by
    cases h
    simpa using e.symm
  | x :: r, l, ks, h, e => by
    unfold pairsE at h
    split at h
    · rename_i i j m q
      cases h
      cases ks with
      | nil => simp at e
      | cons k ks =>
        simp only [List.map_cons, List.cons.injEq] at e
        have h1 := e.1
        simp only [tkeyOf, keysOf, keyOf, Option.some.injEq] at h1
        rw [tkeyOf_pairs q e.2, ← h1]
        rfl
    · cases h
theorem pairs_at {K : Fg} {ρ : Rho} {H : Hp} : ∀ {kvs : List (List Key × V)} {l : List (Int × Int)} {bs : List Addr}, (kvs.map (·.1)) = l.map (fun p => [Sum.inl p.1, Sum.inl p.2]) → IsKeys H kvs bs → bs.map (pairAt H) = l ∧ ∀ b ∈ bs, VR K ρ H (pairE (pairAt H b)) (.ref b)
  | _, l, _, h, .nil => by
    have : l = [] := by simpa using h.symm
    subst this
    exact ⟨rfl, fun b hb => absurd hb (by simp)⟩
  | _, [], _, h, .cons hb hr => by simp at h
  | _, p :: l, _, h, .cons (b := b) hb hr => by
    simp only [List.map_cons, List.cons.injEq] at h
    obtain ⟨h1, h2⟩ := pairs_at (K := K) (ρ := ρ) h.2 hr
    rw [h.1] at hb
    have hb' : H b = some (.tup [.int p.1, .int p.2]) := hb
    have e : pairAt H b = p := by
      unfold pairAt
      rw [hb']
    refine ⟨by rw [List.map_cons, h1, e], fun c hc => ?_⟩
    rcases List.mem_cons.mp hc with q | q
    · subst q
      rw [e]
      exact vr_tup.mpr ⟨c, _, rfl, hb', vrs_cons.mpr ⟨_, _, rfl, vr_int.mpr rfl, vrs_cons.mpr ⟨_, _, rfl, vr_int.mpr rfl, vrs_nil.mpr rfl⟩⟩⟩
    · exact h2 c q
theorem vrs_pairs {K : Fg} {ρ : Rho} {H : Hp} : ∀ {ys : List Addr}, (∀ b ∈ ys, VR K ρ H (pairE (pairAt H b)) (.ref b)) → VRs K ρ H ((ys.map (pairAt H)).map pairE) (ys.map V.ref)
  | [], _ => vrs_nil.mpr rfl
  | y :: ys, h => vrs_cons.mpr ⟨_, _, rfl, h y List.mem_cons_self, vrs_pairs fun b hb => h b (List.mem_cons_of_mem _ hb)⟩
section
variable {X : Cx} {ct : Nat → Addr × List Str} {E : XK} {G : Gx}
theorem c_sortI : Cld X ct E (.builtin "sorted") fSortI := ⟨_, cr_sortedI, fun ρ H eh xs as Q hr hx h => by
  unfold fSortI at h
  split at h
  · rename_i n
    split at h
    · rename_i ys e1
      split at h
      · rename_i l e2
        obtain ⟨v, rfl, hv⟩ := vrs_one hx
        obtain ⟨a, vs, g1, g2, g3⟩ := lst_of hr e1
        obtain ⟨a', q1, rfl⟩ := vr_ref.mp hv
        rw [g1] at q1; cases q1
        rw [intsE_eq e2] at g3
        rw [VRs.of_ints g3] at g2
        refine ⟨a, l, rfl, g2, fun ns' p hp hs hn => ?_⟩
        rw [isort_eq hp hs]
        exact new_lst hr (VRs.ints _) h p hn
      · exact h.elim
    · exact h.elim
  · exact h.elim⟩
theorem c_sortT (hc : X.calm = true) : Cld X ct E (.builtin "sorted") fSortT := ⟨_, call_sortedDT hc, fun ρ H eh xs as Q hr hx h => by
  unfold fSortT at h
  split at h
  · rename_i n
    split at h
    · rename_i kvs e1
      split at h
      · rename_i l e2
        obtain ⟨v, rfl, hv⟩ := vrs_one hx
        obtain ⟨a, u, g1, g2, g3⟩ := dic_of hr e1
        obtain ⟨a', q1, rfl⟩ := vr_ref.mp hv
        rw [g1] at q1; cases q1
        obtain ⟨m, rfl, hk⟩ := g3
        have hkeys : m.map (·.1) = l.map fun p => [Sum.inl p.1, Sum.inl p.2] := by
          refine tkeyOf_pairs e2 ?_
          rw [List.map_map, List.map_map]
          exact hk.keys
        refine ⟨a, m, rfl, g2, fun p hp => ?_, fun bs ys p hK hperm hs hn => ?_⟩
        · have : p.1 ∈ l.map fun p => [Sum.inl p.1, Sum.inl p.2] := by
            rw [← hkeys]
            exact List.mem_map.mpr ⟨p, hp, rfl⟩
          obtain ⟨z, _, hz⟩ := List.mem_map.mp this
          exact ⟨z.1, z.2, hz.symm⟩
        · obtain ⟨k1, k2⟩ := pairs_at (K := X.K) (ρ := ρ) hkeys hK
          have e3 : ys.map (pairAt H) = psort l := by
            refine psort_eq ?_ hs
            rw [← k1]
            exact hperm.map _
          have hv := vrs_pairs (K := X.K) (ρ := ρ) fun b hb => k2 b (hperm.mem_iff.mp hb)
          rw [e3] at hv
          exact new_lst hr hv h p hn
      · exact h.elim
    · exact h.elim
  · exact h.elim⟩
theorem c_sortD (hc : X.calm = true) : Cld X ct E (.builtin "sorted") fSortD := ⟨_, call_sortedDI hc, fun ρ H eh xs as Q hr hx h => by
  unfold fSortD at h
  split at h
  · rename_i n
    split at h
    · rename_i kvs e1
      split at h
      · rename_i l e2
        split at h
        · rename_i hl
          obtain ⟨v, rfl, hv⟩ := vrs_one hx
          obtain ⟨a, u, g1, g2, g3⟩ := dic_of hr e1
          obtain ⟨a', q1, rfl⟩ := vr_ref.mp hv
          rw [g1] at q1; cases q1
          obtain ⟨m, rfl, hk⟩ := g3
          have hkeys : m.map (·.1) = l.map Sum.inl := by
            refine keyOf_ints e2 ?_
            rw [List.map_map, List.map_map]
            exact hk.keys
          refine ⟨a, m, l, rfl, g2, hkeys, hl, fun ys p hp hs hn => ?_⟩
          rw [isort_eq hp hs]
          exact new_lst hr (VRs.ints _) h p hn
        · exact h.elim
      · exact h.elim
    · exact h.elim
  · exact h.elim⟩
abbrev fSorted : DL := dLor fSortI (dLor fSortT fSortD)
theorem c_sorted (hc : X.calm = true) : Cld X ct E (.builtin "sorted") fSorted := c_sortI.or ((c_sortT hc).or (c_sortD hc))
end
end EE
set_option Elab.async false
set_option linter.all false
set_option maxRecDepth 100000
set_option maxHeartbeats 1000000
namespace EE
open PySem PySem.Spec PyProof.Rows L2
section
variable {X : Cx} {pins : List (Addr × Obj)} {σ : L2.St} {H : Hp} {s : Shared} {d : Addr} {o : Obj}
theorem frz_raw {kvs : List (List Key × V)} (I : Inv X pins σ H s) (h : H d = some (.frz o (.dT kvs))) :
    (d == sysModules) = false ∧ ∃ (ent : Array DictEntry) (ep : Nat), DT.Raw s.heap d ent ep ∧ o.data = .dict ent ep ∧ ent.size = kvs.length ∧
      ∀ (i : Nat) (k : List Key) (v : V) (hi : i < ent.size), kvs[i]? = some (k, v) → ∃ q : Addr, ent[i].key = .ref q ∧ H q = some (.tup (k.map kV)) ∧ RelV v ent[i].val := by
  obtain ⟨h0, z, hsys, raw, hpr, o', ent, ep, ho, hx, hdat, hent, hnd⟩ := I.hok d _ h
  rw [h0] at ho
  cases ho
  refine ⟨hsys, ent, ep, ⟨o, h0, hx, hdat⟩, hdat, ?_, fun i k v hi e => ?_⟩
  · rw [size_of_entries hent, Paired.length hpr]
  · obtain ⟨b, b1, b2, b3, b4⟩ := paired_get hpr e
    have q := entry_at hent i
    rw [b1, Array.getElem?_eq_getElem hi] at q
    have e2 := Option.some.inj q
    refine ⟨b.2.1, ?_, b3, ?_⟩
    · rw [e2]
      rfl
    · rw [e2]
      exact b4
end
def ItiT (d : Addr) (o : Obj) (kvs : List (List Key × V)) : It where
  go := fun i H => H d = some (.frz o (.dT kvs)) ∧ i < kvs.length
  yld := fun i H x H' => ∃ (T q : Addr) (k : List Key) (v : V), kvs[i]? = some (k, v) ∧ H q = some (.tup (k.map kV)) ∧ x = .ref T ∧ H T = none ∧ H' = upd H T (.tup [.ref q, v])
  stop := fun i H => H d = some (.frz o (.dT kvs)) ∧ kvs.length ≤ i
theorem turn_itemsT {P : Program} {w : World} {K : Fg} {d : Addr} {o : Obj} {ent : Array DictEntry} {ep : Nat} {kvs : List (List Key × V)} {elts : List Expr} {kk : Nat} {tpos : Pos} (it : Addr) (hod : o.data = .dict ent ep) :
    Turn P w K (.Tuple elts kk tpos) (ItiT d o kvs) [it] it (fun i h => ∃ c1 c2, IsItemIter h it d i kvs.length ep c1 c2) where
  mem := List.mem_singleton.mpr rfl
  obj := fun i h st b hb => by
    obtain ⟨c1, c2, e⟩ := st
    rw [List.mem_singleton.mp hb]
    exact ⟨_, e, fun v z => nomatch z⟩
  keep := fun i h h' st k => let ⟨c1, c2, e⟩ := st; ⟨c1, c2, k it (List.mem_singleton.mpr rfl) _ e⟩
  item := by
    intro X hP hw hK hc i pins s σ H E I hf st hg
    subst hP hw hK
    obtain ⟨g1, g2⟩ := hg
    obtain ⟨hsys, ent', ep', hraw, hdat, hsz, hat⟩ := frz_raw I g1
    obtain ⟨rfl, rfl⟩ := dict_ep hod hdat
    have hi : i < ent'.size := by rw [hsz]; exact g2
    have hkv : kvs[i]? = some (kvs[i].1, kvs[i].2) := List.getElem?_eq_getElem g2
    obtain ⟨q, hq1, hq2, hq3⟩ := hat i _ _ hi hkv
    obtain ⟨c1, c2, hst⟩ := st
    rw [← hsz] at hst
    have hlt : it < s.heap.objs.size := Heap.lt_size hst
    refine DT.nextI hst hraw hi fun h1 k1 k2 k3 k4 => ?_
    refine ⟨_, rfl, wpAny_letOwnedTupleGo_items (s := { s with heap := h1 }) k1 fun h2 j1 sb => ?_⟩
    have hT : h2.get? s.heap.objs.size = some { cls := .type "tuple", data := .seq #[.ref q, ent'[i].val] } := by
      rw [← hq1]
      exact (sb.2 _ (Nat.ne_of_gt hlt)).trans k2
    have new : ObjOk X.prog X.w (upd H s.heap.objs.size (.tup [.ref q, kvs[i].2])) h2 s.heap.objs.size (.tup [.ref q, kvs[i].2]) :=
      ⟨by show 2 ≤ sizeLine; decide, [.ref q, ent'[i].val], .cons rfl (.cons hq3 .nil), ⟨_, hT, rfl, _, rfl⟩⟩
    have I1 : Inv X pins σ (upd H s.heap.objs.size (.tup [.ref q, kvs[i].2])) { s with heap := h2 } :=
      I.turnedNew (t' := s.toks) (ch := [it]) (fun b ob hb e => (sb.2 b (fun z => hb (List.mem_singleton.mpr z))).trans (k4 b ob (fun z => hb (List.mem_singleton.mpr z)) e)) hf (Nat.le_refl _) new
    refine ⟨.ref s.heap.objs.size, _, I1, rfl, ⟨_, q, _, _, hkv, hq2, rfl, I.hok.fresh (Nat.le_refl _), rfl⟩, ⟨ent'[i].key, ent'[i].val, ?_⟩, fun b hb => ?_⟩
    · rw [← hsz]
      exact j1
    · rw [List.mem_singleton.mp hb, upd_ne (Nat.ne_of_lt hlt)]
      exact (hf it (List.mem_singleton.mpr rfl)).1
  done := by
    intro X hP hw hK hc i pins s σ H E I hf st hg
    subst hP hw hK
    obtain ⟨g1, g2⟩ := hg
    obtain ⟨f0, f1, f2, f3, f4, f5⟩ := hf it (List.mem_singleton.mpr rfl)
    obtain ⟨hsys, ent', ep', hraw, hdat, hsz, hat⟩ := frz_raw I g1
    obtain ⟨rfl, rfl⟩ := dict_ep hod hdat
    obtain ⟨c1, c2, hst⟩ := st
    rw [← hsz] at hst
    exact DT.endI (I.ok.hd hc) hst hraw (by rw [hsz]; exact g2) fun h' eb => ⟨rfl, I.turned (t' := s.toks) (fun b ob hb e => eb b ob hb e) f0 f1 f3 f4 f5⟩
  self := fun A i s Q E st h => let ⟨_, _, e⟩ := st; PySem.W.kcp_self e h
def iItemsT (td : TE) : TI := fun σ H R => td σ H fun x H1 => ∃ d o kvs, x = .ref d ∧ H1 d = some (.frz o (.dT kvs)) ∧ R (ItiT d o kvs) H1
section
variable {X : Cx} {e : Expr} {td : TE} {apos cpos : Pos}
theorem pi_itemsT {elts : List Expr} {kk : Nat} {tpos : Pos} (he : PE X e td) (hbase : attributeBase e "items" X.env (eval e X.env) = eval e X.env := by rfl) (hline : (apos.endLine == cpos.line) = true := by rfl) :
    PI X (.Tuple elts kk tpos) (.Call (.Attribute e "items" apos) [] [] cpos) (iItemsT td) := by
  refine ⟨fun pins s σ H R I h => wpAny_Call_method (T := "dict") (id := "dict.items") hbase rfl hline PySem.F.plainAttrs_dict PySem.F.slot_dict_items PySem.F.type_dict_items (thn (he.run pins s σ H _ I h) fun u s1 ⟨x, H1, I1, rx, d, o, kvs, ex, hd, q⟩ => ?_)⟩
  subst ex
  cases (show u = Value.ref d from rx)
  obtain ⟨hsys, ent, ep, hraw, hdat, hsz, hat⟩ := frz_raw I1 hd
  refine ⟨hraw.typeIs, fun b q => ?_, ?_⟩
  · cases q
    obtain ⟨ob, h1, h2, _⟩ := hraw
    exact ⟨ob, h1, h2.2.1⟩
  have I2 : Inv X pins σ H1 { s1 with heap := s1.heap.push { cls := .type "dict_items", data := .fields #[.ref d] } } := I1.kept (t' := s1.toks) fun b ob q => Heap.get?_push_of_some _ q
  have fin : wpAny (model X.prog X.w) X.A (pyIter (.ref s1.heap.objs.size)) (PIE X pins σ (.Tuple elts kk tpos) R) X.xe { s1 with heap := s1.heap.push { cls := .type "dict_items", data := .fields #[.ref d] } } := by
    refine DT.iterI (d := d) ⟨_, Heap.get?_push_size _ rfl, rfl, rfl⟩ (hraw.push _) (pi_one (tk := s1.toks) I2 _ (turn_itemsT (kvs := kvs) _ hdat) ⟨.none, .none, ?_⟩ q)
    rw [← hsz]
    exact Heap.get?_push_size _ rfl
  show wpAny _ _ (callWith cpos (.builtin "dict.items") [.ref d] [] []) _ X.xe s1
  exact method_meetsIn PySem.F.slot_dict_items PySem.F.entry_dict_items rfl (PySem.evalArgs_none ⟨rfl, hraw.typeIs, PySem.F.args_dict_items_1 _, _, DT.meetsItems (es := ent) (ep := ep) hsys, hraw, fin⟩)
end
def dItIT (a : DE) : DI := fun es h => (a es h).bind fun x h1 => match x with
  | .ref n => match lkAt h1 n with
    | some (true, kvs) => .ok ⟨none, kvs.map (fun p => .tup [p.1, p.2]), fun _ x => x⟩ h1
    | _ => .no
  | _ => .no
section
variable {X : Cx} {ct : Nat → Addr × List Str} {E : XK} {G : Gx} {a : Expr} {da : DE}
theorem snd_itIT {tl : TE} (ha : SndE G E tl da) : SndI G E (iItemsT tl) (dItIT da) := fun ρ σ H es eh Q rel h => by
  refine ha.bind rel h fun ρ1 H1 x eh1 v e1 rel1 v1 h1 => ?_
  split at h1
  · rename_i n
    split at h1
    · rename_i kvs e2
      obtain ⟨p, f, u, g1, g2, g3⟩ := lk_of rel1.hr e2
      obtain ⟨p', q1, rfl⟩ := vr_ref.mp v1
      rw [adr_of g1] at q1; cases q1
      obtain ⟨l, rfl, hk⟩ := g3
      refine ⟨p, f, l, rfl, g2, h1 ρ1 H1 _ (Ext.refl _ _ _) rel1.hr fun ρ' H' eh' xs e hr hc => ?_⟩
      cases hc
      have hz := e.frz _ _ _ g2
      refine ⟨fun i x hx => ?_, fun i hx => ?_⟩
      · rw [List.getElem?_map] at hx
        obtain ⟨p0, hp, rfl⟩ := Option.map_eq_some_iff.mp hx
        obtain ⟨k, w, k1, k2, k3⟩ := hk.at hp
        refine ⟨⟨hz, (List.getElem?_eq_some_iff.mp k1).1⟩, fun y H3 hy => ?_⟩
        obtain ⟨T, b, k', w', k1', hb, rfl, hT, rfl⟩ := hy
        rw [k1] at k1'
        cases k1'
        have e3 : Ext G.K ρ' ρ' H' (upd H' T (.tup [.ref b, w])) := Ext.side _ hT
        refine ⟨e3, hr.side _ hT, vr_tup.mpr ⟨T, _, rfl, upd_same, vrs_cons.mpr ⟨_, _, rfl, ?_, VRs.one ?_⟩⟩⟩
        · exact VR.mono e3 _ _ (tkeyOf_vr k2 hb)
        · exact VR.mono (e.trans e3) _ _ k3
      · rw [List.getElem?_map, Option.map_eq_none_iff, List.getElem?_eq_none_iff] at hx
        exact ⟨hz, by rw [← hk.len]; exact hx⟩
    · exact h1.elim
  · exact h1.elim
theorem xi_itemsT {elts : List Expr} {kk : Nat} {tpos apos cpos : Pos} (h : PEd X ct E a da) (hbase : attributeBase a "items" X.env (eval a X.env) = eval a X.env := by rfl) (hline : (apos.endLine == cpos.line) = true := by rfl) :
    PId X ct E (.Tuple elts kk tpos) (.Call (.Attribute a "items" apos) [] [] cpos) (dItIT da) := by
  obtain ⟨t, h1, h2⟩ := h
  exact ⟨_, pi_itemsT h1 hbase hline, snd_itIT h2⟩
end
end EE
set_option Elab.async false
set_option linter.all false
set_option maxRecDepth 100000
set_option maxHeartbeats 1000000
namespace EE
open PySem PySem.Spec PyProof.Rows L2
abbrev InBlk (X : Cx) (scope : Scope) (R : Cx → Prop) : Prop := ∀ (s : Shared) (H : Hp) (C : Addr) (cl : List (Str × Addr)) (fs : List Addr), R (X.blk s H scope (compEnvC scope cl C X.env) fs)
theorem obj_empty {o0 : HO} (ho0 : o0 = .dK [] ∨ o0 = .dT []) {P : Program} {w : World} {H : Hp} (h : Heap) (hb : sysModules < h.objs.size) : ObjOk P w H (h.push { cls := .type "dict", data := .dict #[] }) h.objs.size o0 := by
  rcases ho0 with rfl | rfl
  · exact dk_empty h hb
  · exact dt_empty h hb
section
variable {X : Cx}
theorem d_dictSet2 {pins : List (Addr × Obj)} {σ : L2.St} {H H' : Hp} {s : Shared} {E : Value → Shared → Prop} {D : Addr} {y v : V} {u r : Value} {Q : Unit → Shared → Prop} (hu : X.A.units + 1 < cLine) (I : Inv X pins σ H s) (g : DPut H D y v H')
    (ry : RelV y u) (rv : RelV v r) (h : ∀ s', Inv X pins σ H' s' → Q () s') : wpAny (model X.prog X.w) X.A (dictSet D u r) Q E s := by
  rcases g with ⟨kvs, k, e, rfl, l, rfl⟩ | ⟨kvs, k, b, e, rfl, eb, l, rfl⟩
  · exact d_dictSet I e l ry rv h
  · cases (show u = Value.ref b from ry)
    obtain ⟨z, hd, xs, rel, dd⟩ := dt_of I.hok e
    have c1 : xs.length ≤ sizeLine := by rw [← Paired.length rel]; exact z
    have c2 := length_putK kvs k v
    refine wpAny_dictSet_heap (hsz := c1) (show X.A.units < cLine by omega) (key_of I.hok eb) dd fun h' dd' hs => h _ ?_
    obtain ⟨q, es, ep, j1, j2, j3, j4, _, j6⟩ := dd'
    refine d_write I (by rw [e]; exact True.intro) hs ⟨q, j1⟩ ⟨by omega, hd, _, (rel.put k eb rv).keeps fun c ys ec => ?_, q, es, ep, j1, j2, j3, j4, j6⟩
    have n : c ≠ D := ne_of ec e fun z => nomatch z
    rw [upd_ne n]
    exact ec
def tDcG (o0 : HO) (wi : TI) (g : TG) (tt : TT) (tk tv : TE) (vs : List Nat) : TE := fun σ H Q => wi σ H fun J H1 => ∀ D, H1 D = none → ∃ W : Nat → Nat → Hp → Prop, (∃ m, W 0 m (upd H1 D o0)) ∧ ∀ i m H, W i m H →
  (J.stop i H ∧ Q (.ref D) H) ∨ (J.go i H ∧ ∃ Nxt : Hp → Prop, (∀ H', Nxt H' → ∃ m', m' < m ∧ W (i + 1) m' H') ∧ ∀ x H', J.yld i H x H' → g x (wipe σ vs) H' fun σ2 H2 => wipe σ2 vs = wipe σ vs ∧ tt σ2 H2 fun b H3 =>
    if b = true then tk σ2 H3 fun y H4 => tv σ2 H4 fun z H5 => ∃ H6, DPut H5 D y z H6 ∧ Nxt H6 else Nxt H3)
theorem dict_comp_any {o0 : HO} (ho0 : o0 = .dK [] ∨ o0 = .dT []) (hu : X.A.units + 1 < cLine) {pins : List (Addr × Obj)} {s : Shared} {σ : L2.St} {H : Hp} {Q : VK} {kx vx tg iter : Expr} {ifs : List Expr} {scope : Scope} {own : List (Str × Nat)} {pos posq : Pos} {wi : TI} {g : TG} {tt : TT} {tk tv : TE} {use : Option (Value → Sem Unit)} {Qf : Value → Shared → Prop}
    (hc : X.calm = true) (hN : X.N.Nodup) (I : L2.Inv X pins σ H s) (hi : PI X tg iter wi) (ok : BlkOk X.N X.env.scope scope own)
    (hg : InBlk X scope fun Y => PG Y tg g) (ht : InBlk X scope fun Y => PTs Y ifs tt)
    (hk : InBlk X scope fun Y => PE Y kx tk)
    (he : InBlk X scope fun Y => PE Y vx tv) (hs : ∀ x, foldedSetIterable iter X.env x = pure x)
    (h : tDcG o0 wi g tt tk tv (own.map (·.2)) σ H Q)
    (hRR : ∀ D C s' m H', L2.Inv X pins σ H' s' → Q (.ref D) H' → s'.heap.Ns C m → FpOk X pins H' C → compPost (model X.prog X.w) X.A X.xe use Qf (.ref D) C (.ok .next) s') :
    wpAny (model X.prog X.w) X.A (comprehension (.DictComp kx vx [⟨tg, iter, ifs, 0⟩] scope pos) scope X.env posq newDict false (eval iter X.env) use) Qf X.xe s := by
  have frees : ∀ y ∈ scope.names, y.2 = .free → ∃ c, X.env.cells.lookup y.1 = some c := fun y hy e => by
    exact (ok.free y hy e).elim (fun k => I.ok.has _ (.inl k)) fun k => I.ok.has _ (.inr k)
  refine wpAny_comprehension_free (use := use) rfl hs (closure_ok frees) ok.kind (fun y hy e => by rw [ok.uniq y hy, e])
    (thn (hi.run pins s σ H _ I h) fun xv t1 hx => thn hx fun itv t2 h2 => ?_)
  obtain ⟨it, fps, tn, J, U2, e, J2, T, z2, w2, q⟩ := h2
  subst e
  refine wpAny_newObj_type (newEnv_comp ?_)
  generalize eD : t2.heap.objs.size = D
  have nD : U2 D = none := J2.hok.fresh (Nat.le_of_eq eD)
  obtain ⟨W, ⟨m0, w0⟩, turn⟩ := q D nD
  -- the new list
  generalize e3 : ({ t2 with heap := t2.heap.push { cls := .type "dict", data := .dict #[] } } : Shared) = t3
  have J3 : L2.Inv X pins σ (upd U2 D o0) t3 := by
    rw [← e3]
    refine J2.laid (t' := t2.toks) (fun b o e => Heap.get?_push_of_some _ e) (Nat.le_of_eq eD) ?_
    rw [← eD]
    exact obj_empty ho0 t2.heap J2.big
  have h3 : t3.heap = t2.heap.push { cls := .type "dict", data := .dict #[] } := by rw [← e3]
  have small : ∀ b ∈ fps, b < t2.heap.objs.size := fun b hb => by
    obtain ⟨o, e, _⟩ := T.obj _ _ z2 b hb
    exact Heap.lt_size e
  have w3 : ∀ b ∈ fps, FpOk X pins (upd U2 D o0) b ∧ b < t3.heap.objs.size := fun b hb => by
    have hlt := small b hb
    refine ⟨⟨?_, (w2 b hb).2⟩, by rw [h3, Heap.size_push]; exact Nat.lt_succ_of_lt hlt⟩
    rw [upd_ne (by rw [← eD]; exact Nat.ne_of_lt hlt)]
    exact (w2 b hb).1
  have z3 : tn 0 t3.heap := T.keep _ _ _ z2 fun b _ o e => by rw [h3]; exact Heap.get?_push_of_some _ e
  have J4 := block_start J3 ok hN w3
  have qg := hg t3 (upd U2 D o0) t3.heap.objs.size (cellsFrom (t3.heap.objs.size + 1) scope.names (cloFrom X.env.cells scope.names [])) fps
  have qt := ht t3 (upd U2 D o0) t3.heap.objs.size (cellsFrom (t3.heap.objs.size + 1) scope.names (cloFrom X.env.cells scope.names [])) fps
  have qk := hk t3 (upd U2 D o0) t3.heap.objs.size (cellsFrom (t3.heap.objs.size + 1) scope.names (cloFrom X.env.cells scope.names [])) fps
  have qe := he t3 (upd U2 D o0) t3.heap.objs.size (cellsFrom (t3.heap.objs.size + 1) scope.names (cloFrom X.env.cells scope.names [])) fps
  show codeAny _ _ (.compStart (.DictComp kx vx [⟨tg, iter, ifs, 0⟩] scope pos) 0 (.ref it) (.ref D) (compEnvC scope (cellsFrom (t3.heap.objs.size + 1) scope.names (cloFrom X.env.cells scope.names [])) t3.heap.objs.size X.env)) (compPost (model X.prog X.w) X.A X.xe use Qf (.ref D) t3.heap.objs.size) { t3 with heap := pushCells (t3.heap.push { cls := .type "dict", data := .dict #[] }) scope.names }
  have nfp : ∀ b ∈ fps, (upd U2 D o0) b = none := fun b hb => (w3 b hb).1.1
  generalize hce : compEnvC scope (cellsFrom (t3.heap.objs.size + 1) scope.names (cloFrom X.env.cells scope.names [])) t3.heap.objs.size X.env = cenv at J4 qg qt qk qe ⊢
  have cL : cenv.locals = t3.heap.objs.size := by subst hce; rfl
  generalize hH3 : upd U2 D o0 = U3 at J3 J4 qg qt qk qe w0 nfp w3
  generalize e4 : ({ t3 with heap := pushCells (t3.heap.push { cls := .type "dict", data := .dict #[] }) scope.names } : Shared) = t4 at J4 ⊢
  have z4 : tn 0 t4.heap := T.keep _ _ _ z3 fun b _ o e => by rw [← e4]; exact pushCells_keeps _ _ _ _ (Heap.get?_push_of_some _ e)
  have stays : ∀ {σ' : L2.St} {H' : Hp} {s' : Shared}, L2.Inv (X.blk t3 U3 scope cenv fps) [] σ' H' s' → (∀ b ∈ fps, H' b = none) → ∀ b ∈ fps, FpOk (X.blk t3 U3 scope cenv fps) [] H' b := fun {σ' H' s'} Jq hn b hb =>
    ⟨hn b hb, (Jq.ok.exf b hb).1, Jq.ok.exfs b hb, .inl hb, fun x c e => (Jq.ok.exf b hb).2 x c e, fun p hp => absurd (show p ∈ ([] : List (Addr × Obj)) ++ [] from hp) (by simp)⟩
  have looped : codeAny (model X.prog X.w) X.A (.compLoop (.DictComp kx vx [⟨tg, iter, ifs, 0⟩] scope pos) 0 (.ref it) (.ref D) cenv) (compPost (model X.prog X.w) X.A X.xe use Qf (.ref D) t3.heap.objs.size) t4 := by
    refine compLoop_anyD (fun n s' => ∃ i H', L2.Inv (X.blk t3 U3 scope cenv fps) [] (wipe σ (own.map (·.2))) H' s' ∧ tn i s'.heap ∧ (∀ b ∈ fps, H' b = none) ∧ W i n H') ?_ m0 ⟨0, U3, J4, z4, nfp, w0⟩
    rintro n t5 ⟨i, U5, J5, z5, n5, w5⟩
    rcases turn i n U5 w5 with ⟨stops, qq⟩ | ⟨goes, Nxt, hNxt, step⟩
    · have td := T.done (X.blk t3 U3 scope cenv fps) rfl rfl rfl hc i [] t5 _ U5 (fun _ _ => False) J5 (stays J5 n5) z5 stops
      refine thnF td fun r t6 ⟨hr, J6⟩ => ?_
      subst hr
      -- back in the def's context
      have J7 : L2.Inv X pins σ U5 t6 := J3.call' (ch := fps) J6.os J6.base J6.hok J6.bare fun b hb => ⟨(w3 b hb).1.2.2.2.1, (w3 b hb).1.2.1, (w3 b hb).1.2.2.2.2.1, (w3 b hb).1.2.2.2.2.2⟩
      have nC : U5 t3.heap.objs.size = none := by
        have z : U5 cenv.locals = none := J6.free
        rw [cL] at z
        exact z
      obtain ⟨m, hn, _⟩ := J6.loc
      have hn : t6.heap.Ns cenv.locals m := hn
      rw [cL] at hn
      exact hRR D t3.heap.objs.size t6 m U5 J7 qq hn (J3.fpOk (Nat.le_refl _) nC)
    · have ti := T.item (X.blk t3 U3 scope cenv fps) rfl rfl rfl hc i [] t5 _ U5 (fun _ _ => False) J5 (stays J5 n5) z5 goes
      refine thnF ti fun r t6 ⟨u, hr, h6⟩ => ?_
      subst hr
      refine thnF h6 fun _ t7 ⟨x, U7, J7, r7, y7, z7, n7⟩ => ?_
      have J7' := J7.pinned (stays J7 n7) (T.obj _ _ z7)
      refine thnF (qg.run _ t7 _ U7 x u _ J7' r7 (step x U7 y7)) fun _ t8 ⟨σ8, U8, J8, hwp, q8⟩ => ?_
      refine thnF (qt.run _ t8 σ8 U8 _ J8 q8) fun b t9 ⟨U9, J9, qn⟩ => ?_
      -- the turn's end
      have fin : ∀ {s' : Shared} {H' : Hp}, L2.Inv (X.blk t3 U3 scope cenv fps) ([] ++ pinsAt fps t7.heap) σ8 H' s' → Nxt H' → ∃ m, m < n ∧ ∃ i H', L2.Inv (X.blk t3 U3 scope cenv fps) [] (wipe σ (own.map (·.2))) H' s' ∧ tn i s'.heap ∧ (∀ b ∈ fps, H' b = none) ∧ W i m H' := fun {s' H'} Jq nx => by
        obtain ⟨m', hm, w'⟩ := hNxt H' nx
        have pin' : ∀ b ∈ fps, ∀ o, t7.heap.get? b = some o → s'.heap.get? b = some o ∧ H' b = none := fun b hb o e =>
          let z := Jq.pin (b, o) (List.mem_append_right _ (List.mem_append_right _ (mem_pinsAt hb e)))
          ⟨z.1, z.2.1⟩
        have hl : (wipe σ (own.map (·.2))).length = σ8.length := by rw [← hwp, wipe_length]
        refine ⟨m', hm, i + 1, H', (Jq.unpinned (pins := [])).weak hl (fun j v e => ?_), T.keep _ _ _ z7 fun b hb o e => (pin' b hb o e).1, fun b hb => ?_, w'⟩
        · rw [← hwp] at e
          exact (wipe_some e).1
        · obtain ⟨o, e, _⟩ := T.obj _ _ z7 b hb
          exact (pin' b hb o e).2
      cases b with
      | false =>
        simp only [Bool.false_eq_true, if_false] at qn ⊢
        exact fin J9 qn
      | true =>
        simp only [if_true] at qn ⊢
        refine thnF (qk.run _ t9 σ8 U9 _ J9 qn) fun z s10 ⟨yk, H10, I10, r10, q10⟩ => ?_
        refine thnF (qe.run _ s10 σ8 H10 _ I10 q10) fun z2 s11 ⟨yv, H11, I11, r11, H12, put, nx⟩ => ?_
        exact d_dictSet2 (X := X.blk t3 U3 scope cenv fps) hu I11 put r10 r11 fun s12 I12 => fin I12 nx
  exact codeAny_compStart_dict looped (T.self X.A 0 _ _ _ z4 looped)
theorem pe_dcG {o0 : HO} (ho0 : o0 = .dK [] ∨ o0 = .dT []) (hu : X.A.units + 1 < cLine) {kx vx tg iter : Expr} {ifs : List Expr} {scope : Scope} {own : List (Str × Nat)} {pos : Pos} {wi : TI} {g : TG} {tt : TT} {tk tv : TE} (hc : X.calm = true) (hN : X.N.Nodup) (hi : PI X tg iter wi) (ok : BlkOk X.N X.env.scope scope own)
    (hg : InBlk X scope fun Y => PG Y tg g) (ht : InBlk X scope fun Y => PTs Y ifs tt)
    (hk : InBlk X scope fun Y => PE Y kx tk)
    (hv : InBlk X scope fun Y => PE Y vx tv) (hs : ∀ x, foldedSetIterable iter X.env x = pure x := by intro _; rfl) :
    PE X (.DictComp kx vx [⟨tg, iter, ifs, 0⟩] scope pos) (tDcG o0 wi g tt tk tv (own.map (·.2))) := by
  refine ⟨fun pins s σ H Q I h => ?_⟩
  rw [arm_eval_DictComp]
  refine dict_comp_any ho0 hu hc hN I hi ok hg ht hk hv hs h fun D C s' m H' Jq q hn f => ⟨m, hn, fun h'' sb => ?_⟩
  exact ⟨.ref D, H', Jq.turned (t' := s'.toks) (fun b o hb e => (sb.2 b hb).trans e) f.1 f.2.1 f.2.2.2.1 f.2.2.2.2.1 f.2.2.2.2.2, rfl, q⟩
end
end EE
set_option Elab.async false
set_option linter.all false
set_option maxRecDepth 100000
set_option maxHeartbeats 1000000
namespace EE
open PySem PySem.Spec PyProof.Rows L2
def dcGo (kd : Bool) (it : Wlk) (g : DG) (t : DT) (k e : DE) (vs : List Nat) : Nat → Nat → List (EV × EV) → ES → EH → Res (List (EV × EV))
  | 0, _, _, _, _ => .no
  | m + 1, i, acc, es, h => match it.cur h with
    | none => .no
    | some xs => match xs[i]? with
      | none => .ok acc h
      | some x => (g (it.tl i x) (wip es vs) h).bind fun es1 h1 => (t es1 h1).bind fun b h2 =>
        if b = true then (k es1 h2).bind fun y h3 => (e es1 h3).bind fun z h4 => match dputE kd acc y z with
          | some acc' => if acc.length < 50000 then dcGo kd it g t k e vs m (i + 1) acc' es h4 else .no
          | none => .no
        else dcGo kd it g t k e vs m (i + 1) acc es h2
def dDc (kd : Bool) (di : DI) (g : DG) (t : DT) (k e : DE) (vs : List Nat) : DE := fun es h => (di es h).bind fun it h1 => match it.cur h1 with
  | none => .no
  | some xs => (dcGo kd it g t k e vs (xs.length + 1) 0 [] es h1).bind fun ys h2 => .ok (.ref h2.length) (h2 ++ [.dic kd ys])
def o0 : Bool → HO
  | false => .dK []
  | true => .dT []
theorem o0_ok : ∀ kd, o0 kd = .dK [] ∨ o0 kd = .dT []
  | false => .inl rfl
  | true => .inr rfl
theorem o0_dr {R : EV → V → Prop} : ∀ kd, DR R kd [] (o0 kd)
  | false => ⟨[], rfl, rfl⟩
  | true => ⟨[], rfl, rfl⟩
section
variable {G : Gx} {E : XK}
theorem put_raw {ρ : Rho} {H : Hp} {D : Addr} {u : HO} {kd : Bool} {kvs kvs' : List (EV × EV)} {x v : EV} {y w : V} (hD : H D = some u) (hd : DR (VR G.K ρ H) kd kvs u) (hp : dputE kd kvs x v = some kvs') (hl : kvs.length < 50000) (hx : VR G.K ρ H x y) (hv : VR G.K ρ H v w) :
    ∃ u', DPut H D y w (upd H D u') ∧ DR (VR G.K ρ H) kd kvs' u' := by
  have hz : kvs.length < sizeLine := Nat.lt_of_lt_of_le hl (by decide)
  cases kd with
  | false =>
    obtain ⟨l, rfl, hk⟩ := hd
    obtain ⟨k, e1, e2⟩ := Option.map_eq_some_iff.mp hp
    subst e2
    exact ⟨_, .inl ⟨l, k, hD, keyOf_eq e1 hx, by rw [← hk.len]; exact hz, rfl⟩, _, rfl, hk.put e1 hv⟩
  | true =>
    obtain ⟨l, rfl, hk⟩ := hd
    obtain ⟨k, e1, e2⟩ := Option.map_eq_some_iff.mp hp
    subst e2
    obtain ⟨b, rfl, hb⟩ := tkeyOf_eq e1 hx
    exact ⟨_, .inr ⟨l, k, b, hD, rfl, hb, by rw [← hk.len]; exact hz, rfl⟩, _, rfl, hk.put e1 hv⟩
theorem ext0_upd2 {K : Fg} {ρ : Rho} {H : Hp} {p : Addr} {u0 u : HO} (h : H p = some u0) (h1 : ∀ xs, u0 ≠ .tup xs) (h2 : ∀ o v, u0 ≠ .frz o v) : Ext0 K ρ ρ H (upd H p u) where
  pre := ⟨[], by simp⟩
  tup := fun a ys q => by
    rw [upd_ne (fun z => by subst z; rw [h] at q; cases q; exact h1 _ rfl)]
    exact q
  frz := fun a o v q => by
    rw [upd_ne (fun z => by subst z; rw [h] at q; cases q; exact h2 _ _ rfl)]
    exact q
theorem snd_dc {kd : Bool} {wi : TI} {g : TG} {tt : TT} {tk te : TE} {vs : List Nat} {di : DI} {dg : DG} {dt : DT} {dk de : DE} (hi : SndI G E wi di) (hg : SndG G E g dg) (ho : OnlyIn g vs) (ht : SndT G E tt dt) (hk : SndE G E tk dk) (he : SndE G E te de) :
    SndE G E (tDcG (o0 kd) wi g tt tk te vs) (dDc kd di dg dt dk de vs) := fun ρ σ H es eh Q rel h => by
  refine hi.bind rel h fun ρ1 H1 it eh1 J e1 rel1 jr h1 => ?_
  split at h1
  · exact h1.elim
  · rename_i xs0 _
    intro Dl hD
    let St := fun (m i : Nat) (H : Hp) => ∃ ρ' eh acc us, Ext G.K ρ1 ρ' H1 H ∧ HR G ρ' H eh ∧ (true, Dl) ∉ ρ' ∧ H Dl = some us ∧ DR (VR G.K ρ' H) kd acc us ∧
      wr G (VR G.K) ρ1 H1 ((dcGo kd it dg dt dk de vs m i acc es eh).bind fun ys h2 => .ok (.ref h2.length) (h2 ++ [.dic kd ys])) Q E
    refine ⟨fun i m H => St m i H, ⟨_, ρ1, eh1, [], o0 kd, Ext.side _ hD, rel1.hr.side _ hD, rel1.hr.fresh hD, upd_same, o0_dr kd, h1⟩, ?_⟩
    rintro i m H' ⟨ρ', eh', acc, us, e', hr', hn, hDl, hacc, hw⟩
    cases m with
    | zero => exact hw.elim
    | succ m =>
      unfold dcGo at hw
      split at hw
      · exact hw.elim
      · rename_i xs hxs
        obtain ⟨j1, j2⟩ := jr ρ' H' eh' xs e' hr' hxs
        split at hw
        · rename_i hnone
          refine .inl ⟨j2 i hnone, ?_⟩
          have e5 := e'.push hD
          have e0 : Ext0 G.K ρ' (ρ' ++ [(true, Dl)]) H' H' := ⟨⟨[(true, Dl)], rfl⟩, fun _ _ q => q, fun _ _ _ q => q⟩
          exact hw (ρ' ++ [(true, Dl)]) H' _ e5 (hr'.push (o := .dic kd acc) hn rfl ⟨us, hDl, hacc.mono fun x v => VR.mono0 e0 x v⟩) (vr_ref.mpr ⟨Dl, last_get hr'.len, rfl⟩)
        · rename_i x hx
          obtain ⟨go, yl⟩ := j1 i x hx
          refine .inr ⟨go, fun H2 => St m (i + 1) H2, fun H2 q => ⟨m, Nat.lt_succ_self m, q⟩, fun y H3 hy => ?_⟩
          obtain ⟨e3, hr3, v3⟩ := yl y H3 hy
          have keepD : ∀ {ρa ρb : Rho} {Ha Hb : Hp}, Ext G.K ρa ρb Ha Hb → (true, Dl) ∉ ρa → Ha Dl = some us → (true, Dl) ∉ ρb ∧ Hb Dl = some us := fun e hn h => by
            refine ⟨fun hm => ?_, e.rest _ _ h hn⟩
            rcases e.new _ hm with z | z
            · exact hn z
            · rw [h] at z; cases z
          have d3 := keepD e3 hn hDl
          have sr : SR G.K ρ' H3 (wip es vs) (wipe σ vs) := ((rel1.sl.mono e').mono e3).wip vs
          have en : Ext G.K ρ1 ρ' H1 H3 := e'.trans e3
          refine ho (wipe σ vs) y (wipe σ vs) H3 (fun σ2 H2 => tt σ2 H2 fun b H3 =>
              if b = true then tk σ2 H3 fun y H4 => te σ2 H4 fun z H5 => ∃ H6, DPut H5 Dl y z H6 ∧ St m (i + 1) H6 else St m (i + 1) H3) _ (wipe_wipe vs) (fun σ2 H2 w q => ⟨w, q⟩) ?_
          refine hg ρ' (wipe σ vs) H3 (wip es vs) eh' (it.tl i x) y _ ⟨sr, hr3⟩ v3 ?_
          cases qg : dg (it.tl i x) (wip es vs) eh' with
          | no =>
            rw [qg] at hw
            exact hw
          | er z h' =>
            rw [qg] at hw
            exact fun ρ' H' c own e' hr q => hw ρ' H' c own (en.trans e') hr q
          | ok es4 eh4 =>
            rw [qg] at hw
            intro ρ4 H4 σ4 e4 hr4 sr4
            have d4 := keepD e4 d3.1 d3.2
            simp only [bind_ok] at hw
            have hw4 : wr G (VR G.K) ρ1 H1 ((dt es4 eh4).bind fun b h2 => (if b = true then (dk es4 h2).bind fun y h3 => (de es4 h3).bind fun z h4 => match dputE kd acc y z with
                | some acc' => if acc.length < 50000 then dcGo kd it dg dt dk de vs m (i + 1) acc' es h4 else .no
                | none => .no else dcGo kd it dg dt dk de vs m (i + 1) acc es h2).bind fun ys h2 => .ok (.ref h2.length) (h2 ++ [.dic kd ys])) Q E := by
              cases qt : dt es4 eh4 with
              | ok b h2 => rw [qt] at hw; exact hw
              | er z h2 => rw [qt] at hw; exact hw
              | no => rw [qt] at hw; exact hw
            refine ht.bind0 ⟨sr4, hr4⟩ (en.trans e4) hw4 fun ρ5 H5 b eh5 b' e5 rel5 v5 h5 => ?_
            subst v5
            have d5 := keepD e5 d4.1 d4.2
            have e15 := (en.trans e4).trans e5
            have acc5 : DR (VR G.K ρ5 H5) kd acc us := hacc.mono fun x v q => VR.mono ((e3.trans e4).trans e5) x v q
            cases b with
            | false => exact iteF ⟨ρ5, eh5, acc, us, e15, rel5.hr, d5.1, d5.2, acc5, h5⟩
            | true =>
              simp only [if_true] at h5
              have h5' : wr G (VR G.K) ρ1 H1 ((dk es4 eh5).bind fun y h3 => ((de es4 h3).bind fun z h4 => match dputE kd acc y z with
                | some acc' => if acc.length < 50000 then dcGo kd it dg dt dk de vs m (i + 1) acc' es h4 else .no
                | none => .no).bind fun ys h2 => .ok (.ref h2.length) (h2 ++ [.dic kd ys])) Q E := by
                cases qt : dk es4 eh5 with
                | ok b h2 => rw [qt] at h5; exact h5
                | er z h2 => rw [qt] at h5; exact h5
                | no => rw [qt] at h5; exact h5
              refine iteT (hk.bind0 rel5 e15 h5' fun ρ6 H6 y6 eh6 u6 e6 rel6 v6 h6 => ?_)
              have d6 := keepD e6 d5.1 d5.2
              have h6' : wr G (VR G.K) ρ1 H1 ((de es4 eh6).bind fun z h4 => (match dputE kd acc y6 z with
                | some acc' => if acc.length < 50000 then dcGo kd it dg dt dk de vs m (i + 1) acc' es h4 else .no
                | none => .no).bind fun ys h2 => Res.ok (EV.ref h2.length) (h2 ++ [EO.dic kd ys])) Q E := by
                cases qt : de es4 eh6 with
                | ok b h2 => rw [qt] at h6; exact h6
                | er z h2 => rw [qt] at h6; exact h6
                | no => rw [qt] at h6; exact h6
              refine he.bind0 rel6 (e15.trans e6) h6' fun ρ7 H7 z7 eh7 u7 e7 rel7 v7 h7 => ?_
              have d7 := keepD e7 d6.1 d6.2
              have acc7 : DR (VR G.K ρ7 H7) kd acc us := acc5.mono fun x v q => VR.mono (e6.trans e7) x v q
              split at h7
              · rename_i acc' ha'
                split at h7
                · rename_i hl
                  obtain ⟨u', p1, p2⟩ := put_raw (G := G) d7.2 acc7 ha' hl (v6.mono e7) v7
                  have em : Ext G.K ρ1 ρ7 H1 (upd H7 Dl u') := ((e15.trans e6).trans e7).mut hD
                  have eb : Ext0 G.K ρ7 ρ7 H7 (upd H7 Dl u') := ext0_upd2 d7.2 acc7.ntup acc7.nfrz
                  exact ⟨_, p1, ρ7, eh7, acc', u', em, rel7.hr.ext eb fun a ha => upd_ne fun z => d7.1 (z ▸ ha), d7.1, upd_same, p2.mono fun x v q => VR.mono0 eb x v q, h7⟩
                · exact h7.elim
              · exact h7.elim
variable {X : Cx} {ct : Nat → Addr × List Str} {kx vx tg iter c : Expr} {scope : Scope} {pos : Pos} {di : DI} {dg : DG} {dt : DT} {dk de : DE}
theorem xe_dc (kd : Bool) (own : List (Str × Nat)) {g : TG} (hu : X.A.units + 1 < cLine) (hc : X.calm = true) (hN : X.N.Nodup) (hi : PId X ct E tg iter di) (hk : InBlk X scope fun Y => PEd Y ct E kx dk) (hv : InBlk X scope fun Y => PEd Y ct E vx de)
    (hg : InBlk X scope fun Y => PG Y tg g) (hg2 : SndG ⟨X.K, ct⟩ E g dg) (ho : OnlyIn g (own.map (·.2)))
    (ok : blkC X.N X.env.scope scope own = true := by kernel_rfl) (hs : ∀ x, foldedSetIterable iter X.env x = pure x := by intro _; rfl) :
    PEd X ct E (.DictComp kx vx [⟨tg, iter, [], 0⟩] scope pos) (dDc kd di dg dYes dk de (own.map (·.2))) := by
  obtain ⟨wi, i1, i2⟩ := hi
  exact ⟨_, pe_dcG (o0_ok kd) hu hc hN i1 (blkOk_by ok) hg (fun _ _ _ _ _ => pts_nil) (fun s H C cl fp => (hk s H C cl fp).can) (fun s H C cl fp => (hv s H C cl fp).can) hs, snd_dc i2 hg2 ho snd_yes snd_tE snd_tE⟩
theorem xe_dci (kd : Bool) (own : List (Str × Nat)) {g : TG} (hu : X.A.units + 1 < cLine) (hc : X.calm = true) (hN : X.N.Nodup) (hi : PId X ct E tg iter di) (ht : InBlk X scope fun Y => PTd Y ct E c dt) (hk : InBlk X scope fun Y => PEd Y ct E kx dk) (hv : InBlk X scope fun Y => PEd Y ct E vx de)
    (hg : InBlk X scope fun Y => PG Y tg g) (hg2 : SndG ⟨X.K, ct⟩ E g dg) (ho : OnlyIn g (own.map (·.2)))
    (ok : blkC X.N X.env.scope scope own = true := by kernel_rfl) (hs : ∀ x, foldedSetIterable iter X.env x = pure x := by intro _; rfl) :
    PEd X ct E (.DictComp kx vx [⟨tg, iter, [c], 0⟩] scope pos) (dDc kd di dg dt dk de (own.map (·.2))) := by
  obtain ⟨wi, i1, i2⟩ := hi
  exact ⟨_, pe_dcG (o0_ok kd) hu hc hN i1 (blkOk_by ok) hg (fun s H C cl fp => pts_one (ht s H C cl fp).can) (fun s H C cl fp => (hk s H C cl fp).can) (fun s H C cl fp => (hv s H C cl fp).can) hs, snd_dc i2 hg2 ho snd_tT snd_tE snd_tE⟩
end
end EE
set_option Elab.async false
set_option linter.all false
set_option maxRecDepth 100000
set_option maxHeartbeats 1000000
namespace EE
open PySem PySem.Spec PyProof.Rows L2
def mergeT (acc : List (List Key × V)) (rest : List (List Key × V)) : List (List Key × V) := rest.foldl (fun a q => putK a q.1 q.2) acc
theorem mergeT_len (rest : List (List Key × V)) : ∀ acc, (mergeT acc rest).length ≤ acc.length + rest.length := by
  induction rest with
  | nil => intro acc; exact Nat.le_refl _
  | cons q rest ih =>
    intro acc
    have h1 := ih (putK acc q.1 q.2)
    have h2 := length_putK acc q.1 q.2
    show (mergeT (putK acc q.1 q.2) rest).length ≤ _
    rw [List.length_cons]
    omega
section
variable {X : Cx}
def PairT (H : Hp) (b : Addr) (q : List Key × V) : Prop := ∃ kb : Addr, H b = some (.tup [.ref kb, q.2]) ∧ H kb = some (.tup (q.1.map kV))
theorem pairT_is {pins : List (Addr × Obj)} {σ : L2.St} {H : Hp} {s : Shared} {b : Addr} {q : List Key × V} (I : L2.Inv X pins σ H s) (h : PairT H b q) : ∃ (kb : Addr) (u : Value), IsTup s.heap b #[.ref kb, u] ∧ RelV q.2 u ∧ H kb = some (.tup (q.1.map kV)) := by
  obtain ⟨kb, h1, h2⟩ := h
  obtain ⟨_, its, r, o, ho, hc, n, hd⟩ := I.hok b _ h1
  obtain ⟨w1, w2, rfl, r1, r2⟩ := vals2 r
  cases r1
  exact ⟨kb, w2, ⟨o, ho, hc, n, hd⟩, r2, h2⟩
theorem updT_loop {A : Around} {R : Result → Shared → Prop} {pins : List (Addr × Obj)} {σ : L2.St} {H : Hp} {S Ia l : Addr} {items : Array Value} {res : Value} (hu : A.units + 1 < cLine) (hh : A.handled = none) (hS : H S = none) (nlI : l ≠ Ia) (nSI : S ≠ Ia) (nSl : S ≠ l) :
    ∀ (rest : List (List Key × V)) (i : Nat) (acc : List (List Key × V)) (ix : Int) (t : Tok) (s : Shared), items.size = i + rest.length → acc.length + rest.length ≤ sizeLine →
      (∀ (j : Nat) (q : List Key × V), rest[j]? = some q → ∃ b : Addr, items[i + j]? = some (.ref b) ∧ PairT H b q) →
      L2.Inv X pins σ (upd H S (.dT acc)) s → FpOk X pins H Ia → s.heap.IsListIter Ia l i → s.heap.IsList l items →
      (∀ s', L2.Inv X pins σ (upd H S (.dT (mergeT acc rest))) s' → R (.ok (.ret res)) s') →
      codeAny (model X.prog X.w) A (.builtin "dict.update.loop" ⟨[.ref S, .ref Ia, .int ix t, res], []⟩) R s := by
  intro rest
  induction rest with
  | nil =>
    intro i acc ix t s hsz hln hat I f hit hl hR
    refine codeAny_builtin ud_entry ?_
    rw [Around.under_plainId ud_plain _]
    show wpAny _ A.in1 (pyNext (.ref Ia) >>= _) _ _ s
    have hnone : items[i]? = none := Array.getElem?_eq_none (by rw [hsz, List.length_nil]; exact Nat.le_refl _)
    refine wpAny_bind (wpAny_pyNext_list_end (A := A.in1) hh hit hl hnone fun h' he => ?_)
    refine wpAny_bind (m := Builtin.Dict.addKeywords S []) (wpAny_pure (wpAny_pure ?_))
    obtain ⟨f0, f1, f2, f3, f4, f5⟩ := f
    exact hR _ (I.turned (t' := s.toks) (fun b o hb e => he b o hb e) (by rw [upd_ne (Ne.symm nSI)]; exact f0) f1 f3 f4 f5)
  | cons q rest ih =>
    intro i acc ix t s hsz hln hat I f hit hl hR
    obtain ⟨b, hb, hpair⟩ := hat 0 q rfl
    rw [List.length_cons] at hsz hln
    have upS : ∀ {a : Addr} {u : HO}, H a = some u → a ≠ S := fun e z => by
      rw [z, hS] at e
      cases e
    have hpair' : PairT (upd H S (.dT acc)) b q := by
      obtain ⟨kb, h1, h2⟩ := hpair
      exact ⟨kb, by rw [upd_ne (upS h1)]; exact h1, by rw [upd_ne (upS h2)]; exact h2⟩
    obtain ⟨f0, f1, f2, f3, f4, f5⟩ := id f
    refine codeAny_builtin ud_entry ?_
    rw [Around.under_plainId ud_plain _]
    show wpAny _ A.in1 (pyNext (.ref Ia) >>= _) _ _ s
    refine wpAny_bind (wpAny_pyNext_list_item (x := .ref b) hit hl (by simpa using hb) fun h1 hit1 sb1 => ?_)
    have I1 : L2.Inv X pins σ (upd H S (.dT acc)) { s with heap := h1 } := I.turned (t' := s.toks) (fun b o hb e => (sb1.2 b hb).trans e) (by rw [upd_ne (Ne.symm nSI)]; exact f0) f1 f3 f4 f5
    have hl1 : h1.IsList l items := hl.extBut sb1.extBut nlI
    obtain ⟨kb, u, ht1, ru, hkb⟩ := pairT_is I1 hpair'
    obtain ⟨o, ho, hc, n, hd⟩ := id ht1
    refine wpAny_bind (wpAny_holding (wpAny_bind (wpAny_tryCatch ?_)))
    unfold Builtin.Dict.pairItems
    refine wpAny_bind (wpAny_typeOf (T := "tuple") ⟨o, ho, hc⟩ ?_)
    rw [if_pos (by decide)]
    refine wpAny_bind (wpAny_seqItems ho hd (wpAny_pure ?_))
    show wpAny _ A.in1 (holding [.ref kb, u] (dictSet S (.ref kb) u)) _ _ _
    obtain ⟨z, hsys, xs, rel, dd⟩ := dt_of I1.hok (upd_same : (upd H S (HO.dT acc)) S = _)
    have c1 : xs.length ≤ sizeLine := by rw [← Paired.length rel]; exact z
    have c2 := length_putK acc q.1 q.2
    refine wpAny_holding (wpAny_dictSet_heap (hsz := c1) (show A.units + 1 < cLine from hu) (key_of I1.hok hkb) dd fun h2 dd2 sb2 => ?_)
    obtain ⟨od, es, ep, k1, k2, k3, k4, _, k6⟩ := dd2
    have e2 : upd (upd H S (.dT acc)) S (.dT (putK acc q.1 q.2)) = upd H S (.dT (putK acc q.1 q.2)) := by
      funext a
      by_cases ha : a = S
      · rw [ha, upd_same, upd_same]
      · rw [upd_ne ha, upd_ne ha, upd_ne ha]
    have I2 : L2.Inv X pins σ (upd H S (.dT (putK acc q.1 q.2))) { s with heap := h2, toks := s.toks + (tupleKind (mixKind X.prog X.w)).draws q.1 } := by
      rw [← e2]
      refine d_write (s := { s with heap := h1 }) I1 (by rw [upd_same]; exact True.intro) sb2 ⟨od, k1⟩ ⟨by omega, hsys, _, (rel.put q.1 hkb ru).keeps fun c ys ec => ?_, od, es, ep, k1, k2, k3, k4, k6⟩
      rw [upd_ne (fun zz => by subst zz; rw [upd_same] at ec; cases ec)]
      exact ec
    refine wpAny_pure ⟨plainId_quiet ud_plain _, ih (i + 1) (putK acc q.1 q.2) (ix + 1) 0 _ (by omega) (by omega) (fun j q' e => ?_) I2 f (hit1.at fun o' e => (sb2.2 Ia (Ne.symm nSI)).trans e) (hl1.extBut sb2.extBut (Ne.symm nSl)) hR⟩
    obtain ⟨b', h1', h2'⟩ := hat (j + 1) q' (by simpa using e)
    exact ⟨b', by rw [show i + 1 + j = i + (j + 1) by omega]; exact h1', h2'⟩
def rDictT (K : Fg) : List V → Hp → VK → Prop := fun xs H Q => ∃ (a : Addr) (ps : List Addr) (kvs : List (List Key × V)), xs = [.ref a] ∧ SqL K H a (ps.map V.ref) ∧ Paired (PairT H) ps kvs ∧ ∀ p, H p = none → Q (.ref p) (upd H p (.dT (mergeT [] kvs)))
theorem call_dictPT (hcalm : X.calm = true) (hu : X.A.units + 2 < cLine) : CallR X (.type "dict") (rDictT X.K) := by
  intro pins s σ H xs us Q I r h
  obtain ⟨a, ps, kvs, rfl, hq, hp, q⟩ := h
  obtain ⟨u, rfl, rx⟩ := r.one
  cases rx
  obtain ⟨its, rv, pl, hz⟩ := I.list hq
  have ei := refs_at rv
  subst ei
  rw [List.length_map] at hz
  have hpl : ps.length = kvs.length := Paired.length hp
  obtain ⟨ol, n, hol, hc, hd, hdat⟩ := pl
  have hS0 : H s.heap.objs.size = none := I.hok.fresh (Nat.le_refl _)
  have I1 : L2.Inv X pins σ (upd H s.heap.objs.size (.dT [])) { s with heap := s.heap.push { cls := .type "dict", data := .dict #[] } } :=
    I.laid (t' := s.toks) (fun _ _ q => Heap.get?_push_of_some _ q) (Nat.le_refl _) (dt_empty s.heap I.big)
  refine callType_codes (Q₁ := fun obj s₁ => obj = .ref s.heap.objs.size ∧ s₁ = { s with heap := s.heap.push { cls := .type "dict", data := .dict #[] } }) PySem.F.kt_called_dict (PySem.F.kt_typeCall_dict_1 _) PySem.F.entry_dict_init (kt_code_dict_new _ ⟨rfl, rfl⟩) ?_
  rintro obj t1 ⟨rfl, rfl⟩
  have hnew : (s.heap.push { cls := .type "dict", data := .dict #[] }).get? s.heap.objs.size = some { cls := .type "dict", data := .dict #[] } := Heap.get?_push_size _ rfl
  have ty : Shared.TypeIs { s with heap := s.heap.push { cls := .type "dict", data := .dict #[] } } (.ref s.heap.objs.size) "dict" := ⟨_, hnew, rfl⟩
  refine ⟨ty, PySem.F.args_dict_init_2 _ _, ?_⟩
  unfold Builtin.«dict.__init__»
  refine wpAny_bind ?_
  unfold Builtin.Dict.selfAndRest
  refine wpAny_bind (wpAny_notOrdered_dict ty ?_)
  refine wpAny_pure ?_
  show wpAny _ _ (Builtin.Dict.updateFrom "dict.__init__" s.heap.objs.size (.ref a) [] .none) _ _ _
  unfold Builtin.Dict.updateFrom
  have hol1 := Heap.get?_push_of_some { cls := .type "dict", data := .dict #[] } hol
  refine wpAny_bind (wpAny_typeOf (T := "list") ⟨ol, hol1, hc⟩ ?_)
  rw [if_pos (by decide)]
  refine wpAny_bind (miss_list hol1 hc hdat hd (I.ok.hd hcalm) fun h1 tk1 hk1 => ?_)
  rw [if_pos (by rfl)]
  refine wpAny_bind (wpAny_rule ?_)
  have I2 : L2.Inv X pins σ (upd H s.heap.objs.size (.dT [])) { s with heap := h1, toks := tk1 } := I1.kept hk1
  have hl1 : h1.IsList a (ps.map Value.ref).toArray := ⟨ol, hk1 _ _ hol1, hc, n, hdat⟩
  refine wpAny_bind (wpAny_pyIter_list hl1 ?_)
  have I3 : L2.Inv X pins σ (upd H s.heap.objs.size (.dT [])) { s with heap := h1.push { cls := .type "list_iterator", data := .fields #[.ref a, .int 0 0] }, toks := tk1 } := I2.kept fun b o e => Heap.get?_push_of_some _ e
  have hS1 : s.heap.objs.size < h1.objs.size := Heap.lt_size (hk1 _ _ hnew)
  have ha : a < s.heap.objs.size := Heap.lt_size hol
  have hfz : H h1.objs.size = none := I.hok.fresh (Nat.le_of_lt hS1)
  have hfz2 : (upd H s.heap.objs.size (.dT [])) h1.objs.size = none := by rw [upd_ne (Nat.ne_of_gt hS1)]; exact hfz
  have f3 := I2.fpOk (b := h1.objs.size) (Nat.le_refl _) hfz2
  have f4 : FpOk X pins H h1.objs.size := ⟨hfz, f3.2⟩
  have key := updT_loop (X := X) (A := X.A.in1) (R := wants (fun r t2 => r = .none ∧ EP X pins σ Q (.ref s.heap.objs.size) t2) X.xe) (S := s.heap.objs.size) (Ia := h1.objs.size) (l := a) (items := (ps.map Value.ref).toArray) (res := Value.none)
    (show X.A.units + 1 + 1 < cLine by omega) (I.ok.hd hcalm) hS0 (Nat.ne_of_lt (Nat.lt_trans ha hS1)) (Nat.ne_of_lt hS1) (Nat.ne_of_gt ha) kvs 0 [] 0 0
    { s with heap := h1.push { cls := .type "list_iterator", data := .fields #[.ref a, .int 0 0] }, toks := tk1 } (by rw [List.size_toArray, List.length_map, hpl, Nat.zero_add]) (by rw [List.length_nil, Nat.zero_add, ← hpl]; exact hz)
    (fun j q' e => by
      have : j < kvs.length := (List.getElem?_eq_some_iff.mp e).1
      have hj : ps[j]? = some ps[j] := List.getElem?_eq_getElem (by omega)
      obtain ⟨q2, e2, hq2⟩ := paired_get hp hj
      rw [e] at e2
      cases e2
      refine ⟨ps[j], ?_, hq2⟩
      rw [Nat.zero_add, List.getElem?_toArray, List.getElem?_map, hj]
      rfl)
    I3 f4 ⟨_, Heap.get?_push_size _ rfl, rfl, rfl⟩ (hl1.at fun o e => Heap.get?_push_of_some _ e) (fun s' I' => ⟨rfl, .ref s.heap.objs.size, _, I', rfl, q _ hS0⟩)
  first
    | exact wpAny_pure ⟨plainId_quiet ud_plain _, key⟩
    | exact wpAny_bind (wpAny_pure (wpAny_pure ⟨plainId_quiet ud_plain _, key⟩))
end
end EE
set_option Elab.async false
set_option linter.all false
set_option maxRecDepth 100000
set_option maxHeartbeats 1000000
namespace EE
open PySem PySem.Spec PyProof.Rows L2
def dfoldT : List (EV × EV) → List EV → Option (List (EV × EV))
  | acc, [] => some acc
  | acc, y :: r => match y with
    | .tup [k, v] => match dputE true acc k v with
      | some acc' => dfoldT acc' r
      | none => none
    | _ => none
def fDictT : DL := fun xs h => match xs with
  | [.ref n] => match lstAt h n with
    | some ys => match dfoldT [] ys with
      | some kvs => .ok (.ref h.length) (h ++ [.dic true kvs])
      | none => .no
    | none => .no
  | _ => .no
theorem dfoldT_ok {K : Fg} {ρ : Rho} {H : Hp} : ∀ {ys : List EV} {acc out : List (EV × EV)} {la : List (List Key × V)} {vs : List V}, KR tkeyOf (VR K ρ H) acc la → VRs K ρ H ys vs → dfoldT acc ys = some out →
    ∃ (ps : List Addr) (kvs : List (List Key × V)), vs = ps.map V.ref ∧ Paired (PairT H) ps kvs ∧ KR tkeyOf (VR K ρ H) out (mergeT la kvs)
  | [], acc, out, la, vs, hk, hv, h => by
    cases h
    rw [vrs_nil.mp hv]
    exact ⟨[], [], rfl, .nil, hk⟩
  | y :: r, acc, out, la, vs, hk, hv, h => by
    obtain ⟨v, vr, rfl, hv1, hv2⟩ := vrs_cons.mp hv
    unfold dfoldT at h
    split at h
    · rename_i k x
      split at h
      · rename_i acc' e1
        obtain ⟨kk, e2, e3⟩ := Option.map_eq_some_iff.mp e1
        subst e3
        obtain ⟨a, ws, rfl, hb, hw⟩ := vr_tup.mp hv1
        obtain ⟨w1, w2, rfl, h1, h2⟩ := vrs_two hw
        obtain ⟨kb, rfl, hkb⟩ := tkeyOf_eq e2 h1
        obtain ⟨ps, kvs, q1, q2, q3⟩ := dfoldT_ok (hk.put e2 h2) hv2 h
        exact ⟨a :: ps, (kk, w2) :: kvs, by rw [q1]; rfl, .cons ⟨kb, hb, hkb⟩ q2, q3⟩
      · cases h
    · cases h
section
variable {X : Cx} {ct : Nat → Addr × List Str} {E : XK} {G : Gx}
theorem c_dictT (hc : X.calm = true) (hu : X.A.units + 2 < cLine) : Cld X ct E (.type "dict") fDictT := ⟨_, call_dictPT hc hu, fun ρ H eh xs as Q hr hx h => by
  unfold fDictT at h
  split at h
  · rename_i n
    split at h
    · rename_i ys e1
      split at h
      · rename_i kvs e2
        obtain ⟨v, rfl, hv⟩ := vrs_one hx
        obtain ⟨a, vs, g1, g2, g3⟩ := lst_of hr e1
        obtain ⟨a', q1, rfl⟩ := vr_ref.mp hv
        rw [g1] at q1; cases q1
        obtain ⟨ps, l, rfl, k2, k3⟩ := dfoldT_ok (acc := []) (la := []) (K := X.K) (ρ := ρ) (H := H) rfl g3 e2
        refine ⟨a, ps, l, rfl, g2, k2, fun p hp => ?_⟩
        exact h (ρ ++ [(true, p)]) _ _ (Ext.alloc _ hp) (hr.alloc (o := .dic true kvs) hp rfl ⟨_, upd_same, _, rfl, k3.mono fun x v => VR.mono (Ext.alloc _ hp) x v⟩) (vr_ref.mpr ⟨p, last_get hr.len, rfl⟩)
      · exact h.elim
    · exact h.elim
  · exact h.elim⟩
def dTru (a : DE) : DT := fun es h => (a es h).bind fun x h1 => match x with
  | .tup xs => .ok (!xs.isEmpty) h1
  | .bl b => .ok b h1
  | .non => .ok false h1
  | .int i => .ok (i != 0) h1
  | .ref n => match lstAt h1 n with
    | some xs => .ok (!xs.isEmpty) h1
    | none => match mdicAt h1 n with
      | some (false, kvs) => .ok (!kvs.isEmpty) h1
      | _ => .no
  | _ => .no
theorem vrs_empty {K : Fg} {ρ : Rho} {H : Hp} : ∀ {xs : List EV} {vs : List V}, VRs K ρ H xs vs → xs.isEmpty = vs.isEmpty
  | [], vs, h => by rw [vrs_nil.mp h]; rfl
  | x :: xs, vs, h => by
    obtain ⟨v, r, rfl, _, _⟩ := vrs_cons.mp h
    rfl
variable {a : Expr} {d : DE}
theorem xt_tru (h : PEd X ct E a d) (he : ∀ whole, isTrue a X.env whole = (do let v ← whole; standAt a.pos; holding [v] (truthy v)) := by intro _; rfl) : PTd X ct E a (dTru d) := by
  obtain ⟨t, h1, h2⟩ := h
  refine ⟨_, pt_truth h1 he, fun ρ σ H es eh Q rel hw => ?_⟩
  refine h2.bind rel hw fun ρ1 H1 x eh1 u e1 rel1 v1 h1 => ?_
  cases x with
  | tup xs =>
    obtain ⟨p, vs, rfl, g2, g3⟩ := vr_tup.mp v1
    exact ⟨_, .inr (.inl ⟨vs, SqT.of g2, rfl⟩), h1 ρ1 H1 _ (Ext.refl _ _ _) rel1.hr (congrArg not (vrs_empty g3))⟩
  | bl b => rw [vr_bl.mp v1]; exact ⟨b, rfl, h1 ρ1 H1 _ (Ext.refl _ _ _) rel1.hr rfl⟩
  | non => rw [vr_non.mp v1]; exact ⟨false, rfl, h1 ρ1 H1 _ (Ext.refl _ _ _) rel1.hr rfl⟩
  | int i => rw [vr_int.mp v1]; exact ⟨_, rfl, h1 ρ1 H1 _ (Ext.refl _ _ _) rel1.hr rfl⟩
  | ref n =>
    simp only at h1
    split at h1
    · rename_i xs e2
      obtain ⟨a1, vs, g1, g2, g3⟩ := lst_of rel1.hr e2
      obtain ⟨a', q1, rfl⟩ := vr_ref.mp v1
      rw [g1] at q1; cases q1
      exact ⟨_, .inl ⟨vs, g2, rfl⟩, h1 ρ1 H1 _ (Ext.refl _ _ _) rel1.hr (congrArg not (vrs_empty g3))⟩
    · split at h1
      · rename_i kvs e2
        obtain ⟨a1, u, g1, g2, g3, _⟩ := mdic_of rel1.hr e2
        obtain ⟨a', q1, rfl⟩ := vr_ref.mp v1
        rw [g1] at q1; cases q1
        obtain ⟨l, rfl, hk⟩ := g3
        refine ⟨_, .inr (.inr ⟨l, g2, rfl⟩), h1 ρ1 H1 _ (Ext.refl _ _ _) rel1.hr (congrArg not ?_)⟩
        have := hk.len
        cases kvs <;> cases l <;> simp_all
      · exact h1.elim
  | _ => exact h1.elim
end
theorem hu1 {k : Nat} {A : Around} (hr : Room k A) : A.units + 1 < cLine := by have := hr.un; omega
theorem hu2 {k : Nat} {A : Around} (hr : Room k A) : A.units + 2 < cLine := by have := hr.un; omega
def spAny (K : Fg) (f : DL) : Sp := fun vs H Q E => ∀ ct : Nat → Addr × List Str, spD0 ⟨K, ct⟩ f vs H Q E
theorem _root_.L2.FnOk.any {P : Program} {w : World} {K : Fg} {mg : Str → Option Value} {base : Heap} {k : Nat} {f : Addr} {fd : FuncData} {ps : List Str} {fn : DL} {ct : Nat → Addr × List Str} (F : FnOk P w K mg base CX0 k f fd ps (spD0 ⟨K, ct⟩ fn)) : FnOk P w K mg base CX0 k f fd ps (spAny K fn) :=
  ⟨fun vs H Q E h => F.len vs H Q E (h ct), fun A outer s H args us vs Q E h1 h2 h3 h4 h => F.run A outer s H args us vs Q E h1 h2 h3 h4 (h ct)⟩
theorem law_spA {K : Fg} {fn : DL} (hl : LawOk fn) {H : Hp} {a : Addr} {ns : List Int} (hn : ns.length ≤ 63) (hO : Only H) (hS : SqL K H a (ns.map V.int)) : spAny K fn [.ref a] H (fun v _ => v = .bl true) E0 := fun ct => law_sp hl hn hO hS
end EE
set_option Elab.async false
set_option linter.all false
set_option maxRecDepth 100000
set_option maxHeartbeats 1000000
namespace EE
open PySem L2
def Tri {α : Type} (r : Res α) (Q : α → EH → Prop) : Prop := match r with
  | .ok v h => Q v h
  | .er _ _ => False
  | .no => False
@[simp] theorem tri_ok {α : Type} (v : α) (h : EH) (Q : α → EH → Prop) : Tri (.ok v h) Q ↔ Q v h := Iff.rfl
@[simp] theorem tri_no {α : Type} (Q : α → EH → Prop) : Tri (.no) Q ↔ False := Iff.rfl
@[simp] theorem tri_er {α : Type} (x : Exn) (h : EH) (Q : α → EH → Prop) : Tri (.er x h) Q ↔ False := Iff.rfl
@[simp] theorem tri_noer {α : Type} (r : Res α) (Q : α → EH → Prop) : Tri r.noer Q ↔ Tri r Q := by cases r <;> rfl
theorem tri_bind {α β : Type} (r : Res α) (k : α → EH → Res β) (Q : β → EH → Prop) : Tri (r.bind k) Q ↔ Tri r (fun v h => Tri (k v h) Q) := by cases r <;> rfl
theorem Tri.mono {α : Type} {r : Res α} {Q Q' : α → EH → Prop} (h : Tri r Q) (hq : ∀ v h, Q v h → Q' v h) : Tri r Q' := by
  cases r with
  | ok v h' => exact hq v h' h
  | er _ _ => exact h
  | no => exact h
theorem Tri.bind {α β : Type} {r : Res α} {k : α → EH → Res β} {Q : β → EH → Prop} {P : α → EH → Prop} (h : Tri r P) (hq : ∀ v h, P v h → Tri (k v h) Q) : Tri (r.bind k) Q := by
  rw [tri_bind]
  exact h.mono hq
theorem Tri.ex {α : Type} {r : Res α} {Q : α → EH → Prop} (h : Tri r Q) : ∃ v h', r = .ok v h' ∧ Q v h' := by
  cases r with
  | ok v h' => exact ⟨v, h', rfl, h⟩
  | er _ _ => exact h.elim
  | no => exact h.elim
section
variable (es : ES) (h : EH)
def gV (o : Option (Option EV)) (h : EH) : Res EV := match o with
  | some (some v) => .ok v h
  | _ => .no
@[simp] theorem gV_some (v : EV) : gV (some (some v)) h = .ok v h := rfl
@[simp] theorem ap_var (i : Nat) : dVar i es h = gV es[i]? h := rfl
@[simp] theorem ap_c (v : EV) : dC v es h = .ok v h := rfl
def kOp2 (f : D2) (x : EV) : EV → EH → Res EV := fun y h => f x y h
def kOp (f : D2) (b : DE) (es : ES) : EV → EH → Res EV := fun x h => (b es h).bind (kOp2 f x)
@[simp] theorem ap_op (f : D2) (a b : DE) : dOp f a b es h = (a es h).bind (kOp f b es) := rfl
@[simp] theorem ap_kOp (f : D2) (b : DE) (x : EV) : kOp f b es x h = (b es h).bind (kOp2 f x) := rfl
@[simp] theorem ap_kOp2 (f : D2) (x y : EV) : kOp2 f x y h = f x y h := rfl
@[simp] theorem ap_un (f : D1) (a : DE) : dUn f a es h = (a es h).bind f := rfl
@[simp] theorem ap_nil : dNil es h = .ok [] h := rfl
def kCons2 (x : EV) : List EV → EH → Res (List EV) := fun xs h => .ok (x :: xs) h
def kCons (r : DA) (es : ES) : EV → EH → Res (List EV) := fun x h => (r es h).bind (kCons2 x)
@[simp] theorem ap_cons (a : DE) (r : DA) : dCons a r es h = (a es h).bind (kCons r es) := rfl
@[simp] theorem ap_kCons (r : DA) (x : EV) : kCons r es x h = (r es h).bind (kCons2 x) := rfl
@[simp] theorem ap_kCons2 (x : EV) (xs : List EV) : kCons2 x xs h = .ok (x :: xs) h := rfl
@[simp] theorem ap_cb (f : DL) (a : DA) : dCB f a es h = (a es h).bind f := rfl
def kCall (f : DL) : List EV → EH → Res EV := fun xs h => (f xs h).noer
@[simp] theorem ap_call (f : DL) (a : DA) : dCall f a es h = (a es h).bind (kCall f) := rfl
@[simp] theorem ap_kCall (f : DL) (xs : List EV) : kCall f xs h = (f xs h).noer := rfl
def kTup : List EV → EH → Res EV := fun xs h => if xs.length ≤ 100000 then .ok (.tup xs) h else .no
@[simp] theorem ap_tup (a : DA) : dTup a es h = (a es h).bind kTup := rfl
@[simp] theorem ap_kTup (xs : List EV) : kTup xs h = if xs.length ≤ 100000 then .ok (.tup xs) h else .no := rfl
def kLst : List EV → EH → Res EV := fun xs h => if xs.length ≤ 100000 then .ok (.ref h.length) (h ++ [.lst xs]) else .no
@[simp] theorem ap_lst (a : DA) : dLst a es h = (a es h).bind kLst := rfl
@[simp] theorem ap_kLst (xs : List EV) : kLst xs h = if xs.length ≤ 100000 then .ok (.ref h.length) (h ++ [.lst xs]) else .no := rfl
def kB : EV → EH → Res Bool := fun x h => match x with
  | .bl b => .ok b h
  | _ => .no
@[simp] theorem ap_B (a : DE) : dB a es h = (a es h).bind kB := rfl
@[simp] theorem ap_kB (b : Bool) : kB (.bl b) h = .ok b h := rfl
def kAnd (b : DT) (es : ES) : Bool → EH → Res Bool := fun c h => if c = true then b es h else .ok false h
@[simp] theorem ap_and (a b : DT) : dAnd a b es h = (a es h).bind (kAnd b es) := rfl
@[simp] theorem ap_kAnd (b : DT) (c : Bool) : kAnd b es c h = if c = true then b es h else .ok false h := rfl
def kOr (b : DT) (es : ES) : Bool → EH → Res Bool := fun c h => if c = true then .ok true h else b es h
@[simp] theorem ap_or (a b : DT) : dOr a b es h = (a es h).bind (kOr b es) := rfl
@[simp] theorem ap_kOr (b : DT) (c : Bool) : kOr b es c h = if c = true then .ok true h else b es h := rfl
def kNot : Bool → EH → Res Bool := fun c h => .ok (!c) h
@[simp] theorem ap_not (a : DT) : dNot a es h = (a es h).bind kNot := rfl
@[simp] theorem ap_kNot (c : Bool) : kNot c h = .ok (!c) h := rfl
def kAndV (b : DE) (es : ES) : EV → EH → Res EV := fun x h => match x with
  | .bl c => if c = true then b es h else .ok (.bl false) h
  | _ => .no
@[simp] theorem ap_andV (a b : DE) : dAndV a b es h = (a es h).bind (kAndV b es) := rfl
@[simp] theorem ap_kAndV (b : DE) (c : Bool) : kAndV b es (.bl c) h = if c = true then b es h else .ok (.bl false) h := rfl
def kOrV (b : DE) (es : ES) : EV → EH → Res EV := fun x h => match x with
  | .bl c => if c = true then .ok (.bl true) h else b es h
  | _ => .no
@[simp] theorem ap_orV (a b : DE) : dOrV a b es h = (a es h).bind (kOrV b es) := rfl
@[simp] theorem ap_kOrV (b : DE) (c : Bool) : kOrV b es (.bl c) h = if c = true then .ok (.bl true) h else b es h := rfl
def kNotV : EV → EH → Res EV := fun x h => match x with
  | .bl c => .ok (.bl (!c)) h
  | _ => .no
@[simp] theorem ap_notV (a : DE) : dNotV a es h = (a es h).bind kNotV := rfl
@[simp] theorem ap_kNotV (c : Bool) : kNotV (.bl c) h = .ok (.bl (!c)) h := rfl
def kIf (a b : DE) (es : ES) : Bool → EH → Res EV := fun c h => if c = true then a es h else b es h
@[simp] theorem ap_if (t : DT) (a b : DE) : dIf t a b es h = (t es h).bind (kIf a b es) := rfl
@[simp] theorem ap_kIf (a b : DE) (c : Bool) : kIf a b es c h = if c = true then a es h else b es h := rfl
def kCh3 (g : D2) (y : EV) : EV → EH → Res EV := fun w h => g y w h
def kCh2 (g : D2) (c : DE) (es : ES) (y : EV) : EV → EH → Res EV := fun z h => match z with
  | .bl k => if k = true then (c es h).bind (kCh3 g y) else .ok (.bl false) h
  | _ => .no
def kCh1 (f g : D2) (c : DE) (es : ES) (x : EV) : EV → EH → Res EV := fun y h => (f x y h).bind (kCh2 g c es y)
def kCh (f g : D2) (b c : DE) (es : ES) : EV → EH → Res EV := fun x h => (b es h).bind (kCh1 f g c es x)
@[simp] theorem ap_chain (f g : D2) (a b c : DE) : dChain f g a b c es h = (a es h).bind (kCh f g b c es) := rfl
@[simp] theorem ap_kCh (f g : D2) (b c : DE) (x : EV) : kCh f g b c es x h = (b es h).bind (kCh1 f g c es x) := rfl
@[simp] theorem ap_kCh1 (f g : D2) (c : DE) (x y : EV) : kCh1 f g c es x y h = (f x y h).bind (kCh2 g c es y) := rfl
@[simp] theorem ap_kCh2 (g : D2) (c : DE) (y : EV) (k : Bool) : kCh2 g c es y (.bl k) h = if k = true then (c es h).bind (kCh3 g y) else .ok (.bl false) h := rfl
@[simp] theorem ap_kCh3 (g : D2) (y w : EV) : kCh3 g y w h = g y w h := rfl
def kIsi (c : Ty) : EV → EH → Res EV := fun x h => match tyOf h x with
  | some t => .ok (.bl (t.isa c)) h
  | none => .no
@[simp] theorem ap_isi (c : Ty) (a : DE) : fIsi c a es h = (a es h).bind (kIsi c) := rfl
def kIsi2 (c c' : Ty) : EV → EH → Res EV := fun x h => match tyOf h x with
  | some t => .ok (.bl (t.isa c || t.isa c')) h
  | none => .no
@[simp] theorem ap_isi2 (c c' : Ty) (a : DE) : fIsi2 c c' a es h = (a es h).bind (kIsi2 c c') := rfl
@[simp] theorem kIsi_int (c : Ty) (i : Int) : kIsi c (.int i) h = .ok (.bl (Ty.isa .int_ c)) h := rfl
@[simp] theorem kIsi_bl (c : Ty) (i : Bool) : kIsi c (.bl i) h = .ok (.bl (Ty.isa .bool_ c)) h := rfl
@[simp] theorem kIsi_str (c : Ty) (i : Str) : kIsi c (.str i) h = .ok (.bl (Ty.isa .str_ c)) h := rfl
@[simp] theorem kIsi_non (c : Ty) : kIsi c .non h = .ok (.bl (Ty.isa .none_ c)) h := rfl
@[simp] theorem kIsi_tup (c : Ty) (xs : List EV) : kIsi c (.tup xs) h = .ok (.bl (Ty.isa .tuple_ c)) h := rfl
@[simp] theorem kIsi2_int (c c' : Ty) (i : Int) : kIsi2 c c' (.int i) h = .ok (.bl (Ty.isa .int_ c || Ty.isa .int_ c')) h := rfl
@[simp] theorem kIsi2_bl (c c' : Ty) (i : Bool) : kIsi2 c c' (.bl i) h = .ok (.bl (Ty.isa .bool_ c || Ty.isa .bool_ c')) h := rfl
@[simp] theorem kIsi2_str (c c' : Ty) (i : Str) : kIsi2 c c' (.str i) h = .ok (.bl (Ty.isa .str_ c || Ty.isa .str_ c')) h := rfl
@[simp] theorem kIsi2_non (c c' : Ty) : kIsi2 c c' .non h = .ok (.bl (Ty.isa .none_ c || Ty.isa .none_ c')) h := rfl
@[simp] theorem kIsi2_tup (c c' : Ty) (xs : List EV) : kIsi2 c c' (.tup xs) h = .ok (.bl (Ty.isa .tuple_ c || Ty.isa .tuple_ c')) h := rfl
theorem kIsi_lst {h : EH} (c : Ty) {n : Nat} {xs : List EV} (e : lstAt h n = some xs) : kIsi c (.ref n) h = .ok (.bl (Ty.isa .list_ c)) h := by
  unfold lstAt at e
  unfold kIsi
  simp only [tyOf]
  split at e <;> simp_all
theorem kIsi2_lst {h : EH} (c c' : Ty) {n : Nat} {xs : List EV} (e : lstAt h n = some xs) : kIsi2 c c' (.ref n) h = .ok (.bl (Ty.isa .list_ c || Ty.isa .list_ c')) h := by
  unfold lstAt at e
  unfold kIsi2
  simp only [tyOf]
  split at e <;> simp_all
@[simp] theorem ap_next : dNext es h = .ok (.nx es) h := rfl
def kSeq (b : DS) : Flw → EH → Res Flw := fun f h1 => match f with
  | .nx es1 => b es1 h1
  | .rt v => .ok (.rt v) h1
  | .bk e => .ok (.bk e) h1
  | .ct e => .ok (.ct e) h1
@[simp] theorem ap_seq (a b : DS) : dSeq a b es h = (a es h).bind (kSeq b) := rfl
@[simp] theorem kSeq_nx (b : DS) : kSeq b (.nx es) h = b es h := rfl
@[simp] theorem kSeq_rt (b : DS) (v : EV) : kSeq b (.rt v) h = .ok (.rt v) h := rfl
@[simp] theorem kSeq_bk (b : DS) : kSeq b (.bk es) h = .ok (.bk es) h := rfl
@[simp] theorem kSeq_ct (b : DS) : kSeq b (.ct es) h = .ok (.ct es) h := rfl
def kIfS (a b : DS) (es : ES) : Bool → EH → Res Flw := fun c h => if c = true then a es h else b es h
@[simp] theorem ap_ifS (t : DT) (a b : DS) : dIfS t a b es h = (t es h).bind (kIfS a b es) := rfl
@[simp] theorem ap_kIfS (a b : DS) (c : Bool) : kIfS a b es c h = if c = true then a es h else b es h := rfl
def kRet : EV → EH → Res Flw := fun x h => .ok (.rt x) h
@[simp] theorem ap_ret (a : DE) : dRet a es h = (a es h).bind kRet := rfl
@[simp] theorem ap_kRet (x : EV) : kRet x h = .ok (.rt x) h := rfl
@[simp] theorem ap_retN : dRetN es h = .ok (.rt .non) h := rfl
def kDrop (es : ES) : EV → EH → Res Flw := fun _ h => .ok (.nx es) h
@[simp] theorem ap_drop (a : DE) : dDrop a es h = (a es h).bind (kDrop es) := rfl
@[simp] theorem ap_kDrop (x : EV) : kDrop es x h = .ok (.nx es) h := rfl
@[simp] theorem ap_break : dBreak es h = .ok (.bk es) h := rfl
@[simp] theorem ap_cont : dCont es h = .ok (.ct es) h := rfl
@[simp] theorem ap_name (i : Nat) (x : EV) : dName i x es h = .ok (es.set i (some x)) h := rfl
@[simp] theorem ap_gnil : dGNil [] es h = .ok es h := rfl
def kG (r : DGs) (xs : List EV) : ES → EH → Res ES := fun es h => r xs es h
@[simp] theorem ap_gcons (g : DG) (r : DGs) (x : EV) (xs : List EV) : dGCons g r (x :: xs) es h = (g x es h).bind (kG r xs) := rfl
@[simp] theorem ap_kG (r : DGs) (xs : List EV) : kG r xs es h = r xs es h := rfl
@[simp] theorem ap_gtup (n : Nat) (r : DGs) (xs : List EV) : dGTup n r (.tup xs) es h = if xs.length = n then r xs es h else .no := rfl
def kGS3 (es : ES) : Unit → EH → Res ES := fun _ h => .ok es h
def kGS2 (f : DSet) (x o : EV) (es : ES) : EV → EH → Res ES := fun i h => (f o i x h).bind (kGS3 es)
def kGS (b : DE) (f : DSet) (x : EV) (es : ES) : EV → EH → Res ES := fun o h => (b es h).bind (kGS2 f x o es)
@[simp] theorem ap_gsub (a b : DE) (f : DSet) (x : EV) : dGSub a b f x es h = (a es h).bind (kGS b f x es) := rfl
@[simp] theorem ap_kGS (b : DE) (f : DSet) (x o : EV) : kGS b f x es o h = (b es h).bind (kGS2 f x o es) := rfl
@[simp] theorem ap_kGS2 (f : DSet) (x o i : EV) : kGS2 f x o es i h = (f o i x h).bind (kGS3 es) := rfl
@[simp] theorem ap_kGS3 : kGS3 es () h = .ok es h := rfl
def kAsg2 : ES → EH → Res Flw := fun es h => .ok (.nx es) h
def kAsg (g : DG) (es : ES) : EV → EH → Res Flw := fun x h => (g x es h).bind kAsg2
@[simp] theorem ap_asg (a : DE) (g : DG) : dAsg a g es h = (a es h).bind (kAsg g es) := rfl
@[simp] theorem ap_kAsg (g : DG) (x : EV) : kAsg g es x h = (g x es h).bind kAsg2 := rfl
@[simp] theorem ap_kAsg2 : kAsg2 es h = .ok (.nx es) h := rfl
def kPar (i j : Nat) (es : ES) : List EV → EH → Res Flw := fun xs h => match xs with
  | [x, y] => .ok (.nx ((es.set i (some x)).set j (some y))) h
  | _ => .no
@[simp] theorem ap_par (i j : Nat) (a : DA) : dPar i j a es h = (a es h).bind (kPar i j es) := rfl
@[simp] theorem ap_kPar (i j : Nat) (x y : EV) : kPar i j es [x, y] h = .ok (.nx ((es.set i (some x)).set j (some y))) h := rfl
def kBM2 (f : EV → DL) (x : EV) : List EV → EH → Res EV := fun xs h => f x xs h
def kBM (f : EV → DL) (a : DA) (es : ES) : EV → EH → Res EV := fun x h => match x with
  | .ref n => match lstAt h n with
    | some _ => (a es h).bind (kBM2 f x)
    | none => .no
  | _ => .no
@[simp] theorem ap_bm (f : EV → DL) (o : DE) (a : DA) : dBM f o a es h = (o es h).bind (kBM f a es) := rfl
theorem kBM_ref {h : EH} (f : EV → DL) (a : DA) {n : Nat} {xs : List EV} (e : lstAt h n = some xs) : kBM f a es (.ref n) h = (a es h).bind (kBM2 f (.ref n)) := by
  simp [kBM, e]
@[simp] theorem ap_kBM2 (f : EV → DL) (x : EV) (xs : List EV) : kBM2 f x xs h = f x xs h := rfl
def kItL : EV → EH → Res Wlk := fun x h => match x with
  | .ref n => match lstAt h n with
    | some _ => .ok ⟨some n, [], fun _ x => x⟩ h
    | none => .no
  | _ => .no
@[simp] theorem ap_itL (a : DE) : dItL a es h = (a es h).bind kItL := by
  rfl
theorem kItL_ref {h : EH} {n : Nat} {xs : List EV} (e : lstAt h n = some xs) : kItL (.ref n) h = .ok ⟨some n, [], fun _ x => x⟩ h := by
  simp [kItL, e]
def kItT : EV → EH → Res Wlk := fun x h => match x with
  | .tup xs => .ok ⟨none, xs, fun _ x => x⟩ h
  | _ => .no
@[simp] theorem ap_itT (a : DE) : dItT a es h = (a es h).bind kItT := rfl
@[simp] theorem ap_kItT (xs : List EV) : kItT (.tup xs) h = .ok ⟨none, xs, fun _ x => x⟩ h := rfl
def kItR1 : List EV → EH → Res Wlk := fun xs h => match xs with
  | [.int n] => if decide (-100000 ≤ n) && decide (n ≤ 100000) = true then .ok ⟨none, rng 0 n.toNat, fun _ x => x⟩ h else .no
  | _ => .no
@[simp] theorem ap_itR1 (a : DA) : dItR1 a es h = (a es h).bind kItR1 := rfl
theorem ap_kItR1 (n : Int) (h1 : -100000 ≤ n) (h2 : n ≤ 100000) : kItR1 [.int n] h = .ok ⟨none, rng 0 n.toNat, fun _ x => x⟩ h := by
  simp [kItR1, h1, h2]
def kItR2 : List EV → EH → Res Wlk := fun xs h => match xs with
  | [.int lo, .int n] => if decide (-100000 ≤ n) && decide (n ≤ 100000) && decide (-100000 ≤ lo) && decide (lo ≤ 100000) = true then .ok ⟨none, rng lo (n - lo).toNat, fun _ x => x⟩ h else .no
  | _ => .no
@[simp] theorem ap_itR2 (a : DA) : dItR2 a es h = (a es h).bind kItR2 := rfl
theorem ap_kItR2 (lo n : Int) (h1 : -100000 ≤ n) (h2 : n ≤ 100000) (h3 : -100000 ≤ lo) (h4 : lo ≤ 100000) : kItR2 [.int lo, .int n] h = .ok ⟨none, rng lo (n - lo).toNat, fun _ x => x⟩ h := by
  simp [kItR2, h1, h2, h3, h4]
def kFor (g : DG) (b : DS) (es : ES) : Wlk → EH → Res Flw := fun it h1 => match it.cur h1 with
  | none => .no
  | some xs => forGo it g b (xs.length + 1) 0 es h1
@[simp] theorem ap_for (di : DI) (g : DG) (b : DS) : dFor di g b es h = (di es h).bind (kFor g b es) := rfl
def kLc2 : List EV → EH → Res EV := fun ys h2 => .ok (.ref h2.length) (h2 ++ [.lst ys])
@[simp] theorem ap_kLc2 (ys : List EV) : kLc2 ys h = .ok (.ref h.length) (h ++ [.lst ys]) := rfl
def kLc (g : DG) (t : DT) (e : DE) (vs : List Nat) (es : ES) : Wlk → EH → Res EV := fun it h1 => match it.cur h1 with
  | none => .no
  | some xs => (lcGo it g t e vs (xs.length + 1) 0 [] es h1).bind kLc2
@[simp] theorem ap_lc (di : DI) (g : DG) (t : DT) (e : DE) (vs : List Nat) : dLc di g t e vs es h = (di es h).bind (kLc g t e vs es) := rfl
@[simp] theorem ap_yes : dYes es h = .ok true h := rfl
def kPart : EV → EH → Res (Option Int) := fun x h1 => match x with
    | .int i => .ok (some i) h1
    | _ => .no
@[simp] theorem ap_part0 : dPart none es h = .ok none h := rfl
@[simp] theorem ap_part (d : DE) : dPart (some d) es h = (d es h).bind kPart := rfl
@[simp] theorem ap_kPart (i : Int) : kPart (.int i) h = .ok (some i) h := rfl
def kSl3 (f : EV → Option Int → Option Int → EH → Res EV) (x : EV) (l : Option Int) : Option Int → EH → Res EV := fun u h => f x l u h
def kSl2 (f : EV → Option Int → Option Int → EH → Res EV) (hi : ES → EH → Res (Option Int)) (es : ES) (x : EV) : Option Int → EH → Res EV := fun l h => (hi es h).bind (kSl3 f x l)
def kSl (f : EV → Option Int → Option Int → EH → Res EV) (lo hi : ES → EH → Res (Option Int)) (es : ES) : EV → EH → Res EV := fun x h => (lo es h).bind (kSl2 f hi es x)
@[simp] theorem ap_sl (f : EV → Option Int → Option Int → EH → Res EV) (a : DE) (lo hi : ES → EH → Res (Option Int)) : dSl f a lo hi es h = (a es h).bind (kSl f lo hi es) := rfl
@[simp] theorem ap_kSl (f : EV → Option Int → Option Int → EH → Res EV) (lo hi : ES → EH → Res (Option Int)) (x : EV) : kSl f lo hi es x h = (lo es h).bind (kSl2 f hi es x) := rfl
@[simp] theorem ap_kSl2 (f : EV → Option Int → Option Int → EH → Res EV) (hi : ES → EH → Res (Option Int)) (x : EV) (l : Option Int) : kSl2 f hi es x l h = (hi es h).bind (kSl3 f x l) := rfl
@[simp] theorem ap_kSl3 (f : EV → Option Int → Option Int → EH → Res EV) (x : EV) (l u : Option Int) : kSl3 f x l u h = f x l u h := rfl
def kDef : Flw → EH → Res EV := fun f h1 => match f with
  | .nx _ => .ok .non h1
  | .rt v => .ok v h1
  | .bk _ => .no
  | .ct _ => .no
theorem ap_def (np N : Nat) (b : DS) (args : List EV) (hl : args.length = np) : dDef np N b args h = (b (args.map some ++ List.replicate (N - args.length) none) h).bind kDef := by
  unfold dDef
  rw [if_pos hl]
  rfl
@[simp] theorem kDef_nx : kDef (.nx es) h = .ok .non h := rfl
@[simp] theorem kDef_rt (v : EV) : kDef (.rt v) h = .ok v h := rfl
end
section
variable (h : EH) (i j : Int)
@[simp] theorem orE_no {α : Type} (k : Unit → Res α) : (Res.no).orElse k = k () := rfl
@[simp] theorem orE_ok {α : Type} (v : α) (h : EH) (k : Unit → Res α) : (Res.ok v h).orElse k = .ok v h := rfl
@[simp] theorem f_add : fAdd (.int i) (.int j) h = .ok (.int (i + j)) h := rfl
@[simp] theorem f_sub : fSub (.int i) (.int j) h = .ok (.int (i - j)) h := rfl
theorem f_mul (hj : -18446744073709551616 < j) (hj2 : j < 18446744073709551616) : fMul (.int i) (.int j) h = .ok (.int (i * j)) h := by
  show (fInt _ _ _ _ _).orElse _ = _
  simp only [fInt]
  rw [if_pos (by simp [hj, hj2])]
  rfl
theorem f_mulL (hj : -18446744073709551616 < i) (hj2 : i < 18446744073709551616) : fMul (.int i) (.int j) h = .ok (.int (i * j)) h := by
  show (fInt _ _ _ _ _).orElse _ = _
  simp only [fInt]
  rw [if_pos (by simp [hj, hj2])]
  rfl
theorem f_mod (hj : 0 < j) : fMod (.int i) (.int j) h = .ok (.int (i % j)) h := by
  simp [fMod, fInt, hj]
theorem f_div (hj : 0 < j) (hj2 : j < 18446744073709551616) : fDiv (.int i) (.int j) h = .ok (.int (i / j)) h := by
  simp only [fDiv, fInt]
  rw [if_pos (by simp [hj, hj2])]
@[simp] theorem f_pow10 : fPow (.int 10) (.int 18) h = .ok (.int 1000000000000000000) h := by
  simp only [fPow, fInt]
  rw [if_pos (by decide)]
  rfl
@[simp] theorem f_lt : fLt (.int i) (.int j) h = .ok (.bl (decide (i < j))) h := rfl
@[simp] theorem f_le : fLe (.int i) (.int j) h = .ok (.bl (decide (i ≤ j))) h := rfl
@[simp] theorem f_gt : fGt (.int i) (.int j) h = .ok (.bl (decide (j < i))) h := rfl
@[simp] theorem f_ge : fGe (.int i) (.int j) h = .ok (.bl (decide (j ≤ i))) h := rfl
@[simp] theorem f_eqI : fEq (.int i) (.int j) h = .ok (.bl (decide (i = j))) h := by
  show (Res.ok _ _).orElse _ = _
  simp
@[simp] theorem f_neI : fNe (.int i) (.int j) h = .ok (.bl (!decide (i = j))) h := by
  show (Res.ok _ _).orElse _ = _
  simp
@[simp] theorem f_eqB (a b : Bool) : fEq (.bl a) (.bl b) h = .ok (.bl (decide (a = b))) h := by
  show (Res.ok _ _).orElse _ = _
  simp
@[simp] theorem f_eqStr (a b : Str) : fEq (.str a) (.str b) h = .ok (.bl (decide (a = b))) h := by
  show (Res.ok _ _).orElse _ = _
  simp
@[simp] theorem f_neStr (a b : Str) : fNe (.str a) (.str b) h = .ok (.bl (!decide (a = b))) h := by
  show (Res.ok _ _).orElse _ = _
  simp
@[simp] theorem f_neB (a b : Bool) : fNe (.bl a) (.bl b) h = .ok (.bl (!decide (a = b))) h := by
  show (Res.ok _ _).orElse _ = _
  simp
@[simp] theorem f_isN_non : fIsN false .non .non h = .ok (.bl true) h := rfl
@[simp] theorem f_isN_int : fIsN false (.int i) .non h = .ok (.bl false) h := rfl
@[simp] theorem f_isN_bl (b : Bool) : fIsN false (.bl b) .non h = .ok (.bl false) h := rfl
@[simp] theorem f_isN_str (b : Str) : fIsN false (.str b) .non h = .ok (.bl false) h := rfl
@[simp] theorem f_isN_ref (b : Nat) : fIsN false (.ref b) .non h = .ok (.bl false) h := rfl
@[simp] theorem f_isN_tup (b : List EV) : fIsN false (.tup b) .non h = .ok (.bl false) h := rfl
variable {h}
theorem f_ixL {m : Nat} {xs : List EV} {v : EV} (e : lstAt h m = some xs) (k : Nat) (ek : i = (k : Int)) (ev : xs[k]? = some v) : fIx (.ref m) (.int i) h = .ok v h := by
  subst ek
  show (fIxL _ _ _).orElse _ = _
  simp only [fIxL, e, atI_nat ev]
  rfl
theorem f_ixT {xs : List EV} {v : EV} (k : Nat) (ek : i = (k : Int)) (ev : xs[k]? = some v) : fIx (.tup xs) (.int i) h = .ok v h := by
  subst ek
  show (Res.no).orElse _ = _
  simp only [orE_no, fIxT, atI_nat ev]
theorem ixN_of {n k : Nat} (hk : k < n) : ixN n (k : Int) = some k := by
  unfold ixN
  rw [if_pos (by omega), if_pos (by omega)]
  simp
theorem s_lst {m : Nat} {xs : List EV} {x : EV} (e : mutAt h m = some xs) (k : Nat) (ek : i = (k : Int)) (hk : k < xs.length) : sLst (.ref m) (.int i) x h = .ok () (h.set m (.lst (xs.set k x))) := by
  subst ek
  simp only [sLst, e, ixN_of hk]
theorem m_append {m : Nat} {xs : List EV} {x : EV} (e : mutAt h m = some xs) (hl : xs.length < 100000) : mApp (.ref m) [x] h = .ok .non (h.set m (.lst (xs ++ [x]))) := by
  simp only [mApp, e, if_pos hl]
theorem f_len {m : Nat} {xs : List EV} (e : lstAt h m = some xs) : fLen [.ref m] h = .ok (.int xs.length) h := by
  simp only [fLen, e]
@[simp] theorem f_lenT (xs : List EV) : fLen [.tup xs] h = .ok (.int xs.length) h := rfl
theorem f_list {m : Nat} {xs : List EV} (e : lstAt h m = some xs) : fListOf [.ref m] h = .ok (.ref h.length) (h ++ [.lst xs]) := by
  simp only [fListOf, e]
theorem f_cat {m n : Nat} {xs ys : List EV} (e : mutAt h m = some xs) (e2 : mutAt h n = some ys) (hl : xs.length + ys.length ≤ 100000) : fAdd (.ref m) (.ref n) h = .ok (.ref h.length) (h ++ [.lst (xs ++ ys)]) := by
  show (Res.no).orElse _ = _
  simp only [orE_no, fCat, e, e2, if_pos hl]
theorem f_slice {m : Nat} {xs : List EV} (e : lstAt h m = some xs) (lo hi : Option Int) : fSl (.ref m) lo hi h = .ok (.ref h.length) (h ++ [.lst (cutE xs lo hi)]) := by
  simp only [fSl, e]
theorem f_rep {m : Nat} {xs : List EV} (e : mutAt h m = some xs) (h0 : 0 ≤ i) (h1 : i ≤ 1000) (hl : xs.length ≤ 10) : fMul (.ref m) (.int i) h = .ok (.ref h.length) (h ++ [.lst (List.replicate i.toNat xs).flatten]) := by
  show (Res.no).orElse _ = _
  simp only [orE_no, fRep, e]
  rw [if_pos (by simp [h0, h1, hl])]
end
theorem lst_mut {h : EH} {n : Nat} {xs : List EV} (e : mutAt h n = some xs) : lstAt h n = some xs := by
  unfold mutAt at e
  unfold lstAt
  split at e
  · rename_i q
    rw [q]
    exact e
  · cases e
theorem mutAt_lt {h : EH} {n : Nat} {xs : List EV} (e : mutAt h n = some xs) : n < h.length := by
  unfold mutAt at e
  split at e
  · rename_i q
    exact (List.getElem?_eq_some_iff.mp q).1
  · cases e
theorem lstAt_lt {h : EH} {n : Nat} {xs : List EV} (e : lstAt h n = some xs) : n < h.length := by
  unfold lstAt at e
  split at e
  · rename_i q
    exact (List.getElem?_eq_some_iff.mp q).1
  · rename_i q
    exact (List.getElem?_eq_some_iff.mp q).1
  · cases e
theorem lstAt_app {h t : EH} {n : Nat} {xs : List EV} (e : lstAt h n = some xs) : lstAt (h ++ t) n = some xs := by
  have hl := lstAt_lt e
  unfold lstAt at e ⊢
  rw [List.getElem?_append_left hl]
  exact e
theorem mutAt_app {h t : EH} {n : Nat} {xs : List EV} (e : mutAt h n = some xs) : mutAt (h ++ t) n = some xs := by
  have hl := mutAt_lt e
  unfold mutAt at e ⊢
  rw [List.getElem?_append_left hl]
  exact e
@[simp] theorem mutAt_new {h : EH} {xs : List EV} : mutAt (h ++ [.lst xs]) h.length = some xs := by
  unfold mutAt
  simp
@[simp] theorem lstAt_new {h : EH} {xs : List EV} : lstAt (h ++ [.lst xs]) h.length = some xs := lst_mut mutAt_new
theorem mutAt_set {h : EH} {n : Nat} {xs : List EV} (hn : n < h.length) : mutAt (h.set n (.lst xs)) n = some xs := by
  unfold mutAt
  rw [List.getElem?_set_self hn]
@[simp] theorem mutAt_new2 {h : EH} {o : EO} {xs : List EV} : mutAt (h ++ [o, .lst xs]) (h.length + 1) = some xs := by
  unfold mutAt
  rw [List.getElem?_append_right (by omega), Nat.add_sub_cancel_left]
  rfl
@[simp] theorem lstAt_new2 {h : EH} {o : EO} {xs : List EV} : lstAt (h ++ [o, .lst xs]) (h.length + 1) = some xs := lst_mut mutAt_new2
theorem lstAt_set {h : EH} {n : Nat} {xs : List EV} (hn : n < h.length) : lstAt (h.set n (.lst xs)) n = some xs := lst_mut (mutAt_set hn)
theorem mutAt_ne {h : EH} {m n : Nat} {o : EO} (hn : n ≠ m) : mutAt (h.set n o) m = mutAt h m := by
  unfold mutAt
  rw [List.getElem?_set_ne hn]
theorem lstAt_ne {h : EH} {m n : Nat} {o : EO} (hn : n ≠ m) : lstAt (h.set n o) m = lstAt h m := by
  unfold lstAt
  rw [List.getElem?_set_ne hn]
def Fr (X : List Nat) (h h' : EH) : Prop := h.length ≤ h'.length ∧ ∀ n, n < h.length → n ∉ X → h'[n]? = h[n]?
theorem Fr.refl (X : List Nat) (h : EH) : Fr X h h := ⟨Nat.le_refl _, fun _ _ _ => rfl⟩
theorem Fr.trans {X : List Nat} {h h1 h2 : EH} (a : Fr X h h1) (b : Fr X h1 h2) : Fr X h h2 := ⟨Nat.le_trans a.1 b.1, fun n hn hx => (b.2 n (Nat.lt_of_lt_of_le hn a.1) hx).trans (a.2 n hn hx)⟩
theorem Fr.app (X : List Nat) (h t : EH) : Fr X h (h ++ t) := ⟨by simp, fun n hn _ => List.getElem?_append_left hn⟩
theorem Fr.weak {X Y : List Nat} {h h' : EH} (a : Fr X h h') (hx : ∀ n ∈ X, n ∈ Y) : Fr Y h h' := ⟨a.1, fun n hn h => a.2 n hn fun q => h (hx n q)⟩
theorem Fr.set {X : List Nat} {h h' : EH} (a : Fr X h h') {n : Nat} {o : EO} (hn : n ∈ X ∨ h.length ≤ n) : Fr X h (h'.set n o) := ⟨by rw [List.length_set]; exact a.1, fun m hm hx => by
  rw [List.getElem?_set_ne]
  · exact a.2 m hm hx
  · intro e
    subst e
    rcases hn with z | z
    · exact hx z
    · omega⟩
theorem Fr.lst {X : List Nat} {h h' : EH} (a : Fr X h h') {n : Nat} {xs : List EV} (e : lstAt h n = some xs) (hx : n ∉ X) : lstAt h' n = some xs := by
  have hl := lstAt_lt e
  unfold lstAt at e ⊢
  rw [a.2 n hl hx]
  exact e
theorem Fr.mut {X : List Nat} {h h' : EH} (a : Fr X h h') {n : Nat} {xs : List EV} (e : mutAt h n = some xs) (hx : n ∉ X) : mutAt h' n = some xs := by
  have hl := mutAt_lt e
  unfold mutAt at e ⊢
  rw [a.2 n hl hx]
  exact e
theorem Fr.at {X : List Nat} {h h' : EH} (a : Fr X h h') {n : Nat} {o : EO} (e : h[n]? = some o) (hx : n ∉ X) : h'[n]? = some o := by
  rw [a.2 n (List.getElem?_eq_some_iff.mp e).1 hx]
  exact e
theorem tri_for {it : Wlk} {g : DG} {b : DS} {xs : List EV} {es : ES} {h : EH} {Q : Flw → EH → Prop} (I : Nat → ES → EH → Prop) (h0 : I 0 es h) (hcur : ∀ i es h, I i es h → it.cur h = some xs)
    (hstep : ∀ (i : Nat) (x : EV) es h (K : Flw → EH → Prop), xs[i]? = some x → I i es h → (∀ es2 h2, I (i + 1) es2 h2 → K (.nx es2) h2) → (∀ es2 h2, I (i + 1) es2 h2 → K (.ct es2) h2) → (∀ es2 h2, Q (.nx es2) h2 → K (.bk es2) h2) → (∀ v h2, Q (.rt v) h2 → K (.rt v) h2) →
      Tri (g (it.tl i x) es h) fun es1 h1 => Tri (b es1 h1) K)
    (hend : ∀ es h, I xs.length es h → Q (.nx es) h) : Tri (kFor g b es it h) Q := by
  have key : ∀ (m i : Nat) es h, i + m = xs.length + 1 → i ≤ xs.length → I i es h → Tri (forGo it g b m i es h) Q := by
    intro m
    induction m with
    | zero =>
      intro i es h hi hl hI
      exact absurd hi (by omega)
    | succ m ih =>
      intro i es h hi hl hI
      unfold forGo
      rw [hcur i es h hI]
      simp only
      cases hx : xs[i]? with
      | none =>
        have hge := List.getElem?_eq_none_iff.mp hx
        have : i = xs.length := by omega
        subst this
        exact hend es h hI
      | some x =>
        simp only
        have hlt := (List.getElem?_eq_some_iff.mp hx).1
        have hs := hstep i x es h (fun f h2 => match f with
          | .nx es2 => I (i + 1) es2 h2
          | .ct es2 => I (i + 1) es2 h2
          | .bk es2 => Q (.nx es2) h2
          | .rt v => Q (.rt v) h2) hx hI (fun _ _ q => q) (fun _ _ q => q) (fun _ _ q => q) (fun _ _ q => q)
        rw [tri_bind]
        refine hs.mono fun es1 h1 hs1 => ?_
        rw [tri_bind]
        refine hs1.mono fun f h2 hf => ?_
        cases f with
        | nx es2 => exact ih (i + 1) es2 h2 (by omega) (by omega) hf
        | ct es2 => exact ih (i + 1) es2 h2 (by omega) (by omega) hf
        | bk es2 => exact hf
        | rt v => exact hf
  unfold kFor
  rw [hcur 0 es h h0]
  exact key _ 0 es h (by omega) (by omega) h0
theorem tri_lc {it : Wlk} {g : DG} {t : DT} {e : DE} {vs : List Nat} {xs : List EV} {es : ES} {h : EH} {Q : EV → EH → Prop} (J : Nat → List EV → EH → Prop) (h0 : J 0 [] h) (hcur : ∀ i acc h, J i acc h → it.cur h = some xs)
    (hstep : ∀ (i : Nat) (x : EV) acc h, xs[i]? = some x → J i acc h → Tri (g (it.tl i x) (wip es vs) h) fun es1 h1 => Tri (t es1 h1) fun b h2 => if b = true then Tri (e es1 h2) fun y h3 => acc.length < 50000 ∧ J (i + 1) (acc ++ [y]) h3 else J (i + 1) acc h2)
    (hend : ∀ acc h, J xs.length acc h → Q (.ref h.length) (h ++ [.lst acc])) : Tri (kLc g t e vs es it h) Q := by
  have key : ∀ (m i : Nat) acc h, i + m = xs.length + 1 → i ≤ xs.length → J i acc h → Tri (lcGo it g t e vs m i acc es h) fun acc h => J xs.length acc h := by
    intro m
    induction m with
    | zero =>
      intro i acc h hi hl hI
      exact absurd hi (by omega)
    | succ m ih =>
      intro i acc h hi hl hI
      unfold lcGo
      rw [hcur i acc h hI]
      simp only
      cases hx : xs[i]? with
      | none =>
        have hge := List.getElem?_eq_none_iff.mp hx
        have : i = xs.length := by omega
        subst this
        exact hI
      | some x =>
        simp only
        have hs := hstep i x acc h hx hI
        have hlt := (List.getElem?_eq_some_iff.mp hx).1
        rw [tri_bind]
        refine hs.mono fun es1 h1 hs1 => ?_
        rw [tri_bind]
        refine hs1.mono fun b h2 hb => ?_
        cases b with
        | false => exact ih (i + 1) acc h2 (by omega) (by omega) hb
        | true =>
          simp only [if_true] at hb ⊢
          rw [tri_bind]
          refine hb.mono fun y h3 hy => ?_
          rw [if_pos hy.1]
          exact ih (i + 1) _ h3 (by omega) (by omega) hy.2
  unfold kLc
  rw [hcur 0 [] h h0]
  simp only
  rw [tri_bind]
  exact (key _ 0 [] h (by omega) (by omega) h0).mono fun acc h' hJ => hend acc h' hJ
def gvn (n : Nat) (p : Nat → Bool) (v : Nat → EV) : List EV := ((List.range n).filter p).map v
theorem gvn_zero (p : Nat → Bool) (v : Nat → EV) : gvn 0 p v = [] := rfl
theorem gvn_yes {n : Nat} {p : Nat → Bool} {v : Nat → EV} (h : p n = true) : gvn (n + 1) p v = gvn n p v ++ [v n] := by
  unfold gvn
  rw [List.range_succ, List.filter_append, List.map_append]
  simp [h]
theorem gvn_no {n : Nat} {p : Nat → Bool} {v : Nat → EV} (h : p n = false) : gvn (n + 1) p v = gvn n p v := by
  unfold gvn
  rw [List.range_succ, List.filter_append, List.map_append]
  simp [h]
theorem gvn_len (n : Nat) (p : Nat → Bool) (v : Nat → EV) : (gvn n p v).length ≤ n := by
  unfold gvn
  rw [List.length_map]
  have h := List.length_filter_le p (List.range n)
  rw [List.length_range] at h
  exact h
theorem tri_lcJ {it : Wlk} {j : Nat} {t : DT} {e : DE} {vs : List Nat} {xs : List EV} {es : ES} {h : EH} {Q : EV → EH → Prop} (J : Nat → List EV → EH → Prop) (h0 : J 0 [] h) (hcur : ∀ i acc h, J i acc h → it.cur h = some xs) (hacc : ∀ i acc h, J i acc h → acc.length < 50000)
    (hstep : ∀ (i : Nat) (x : EV) acc h (K : Bool → EH → Prop), xs[i]? = some x → J i acc h → (∀ h2, J (i + 1) acc h2 → K false h2) →
      (∀ h2, (∀ Ke : EV → EH → Prop, (∀ y h3, J (i + 1) (acc ++ [y]) h3 → Ke y h3) → Tri (e ((wip es vs).set j (some (it.tl i x))) h2) Ke) → K true h2) → Tri (t ((wip es vs).set j (some (it.tl i x))) h) K)
    (hend : ∀ acc h, J xs.length acc h → Q (.ref h.length) (h ++ [.lst acc])) : Tri (kLc (dName j) t e vs es it h) Q := by
  refine tri_lc (xs := xs) J h0 hcur (fun i x acc h' hx q => ?_) hend
  simp only [ap_name, tri_ok]
  refine hstep i x acc h' _ hx q (fun h2 q2 => ?_) (fun h2 q2 => ?_)
  · rw [if_neg (by decide)]
    exact q2
  · rw [if_pos rfl]
    refine q2 _ fun y h3 q3 => ⟨hacc i acc h' q, q3⟩
theorem tri_lcP {it : Wlk} {j : Nat} {t : DT} {e : DE} {vs : List Nat} {xs : List EV} {es : ES} {h : EH} {Q : EV → EH → Prop} (p : Nat → Bool) (v : Nat → EV) (hl : xs.length < 50000) (hcur : ∀ h', Fr [] h h' → it.cur h' = some xs)
    (ht : ∀ (i : Nat) (x : EV) h' (K : Bool → EH → Prop), xs[i]? = some x → Fr [] h h' → (∀ h2, Fr [] h' h2 → K (p i) h2) → Tri (t ((wip es vs).set j (some (it.tl i x))) h') K)
    (he : ∀ (i : Nat) (x : EV) h' (K : EV → EH → Prop), xs[i]? = some x → Fr [] h h' → p i = true → (∀ h2, Fr [] h' h2 → K (v i) h2) → Tri (e ((wip es vs).set j (some (it.tl i x))) h') K)
    (hend : ∀ h', Fr [] h h' → Q (.ref h'.length) (h' ++ [.lst (gvn xs.length p v)])) : Tri (kLc (dName j) t e vs es it h) Q := by
  refine tri_lc (xs := xs) (fun i acc h' => Fr [] h h' ∧ acc = gvn i p v) ⟨Fr.refl _ _, rfl⟩ (fun i acc h' q => hcur h' q.1) (fun i x acc h' hx q => ?_) fun acc h' q => ?_
  · obtain ⟨hf, rfl⟩ := q
    simp only [ap_name, tri_ok]
    have hlt := (List.getElem?_eq_some_iff.mp hx).1
    refine ht i x h' _ hx hf fun h2 f2 => ?_
    cases hp : p i with
    | false =>
      rw [if_neg (by decide)]
      exact ⟨hf.trans f2, (gvn_no hp).symm⟩
    | true =>
      rw [if_pos rfl]
      refine he i x h2 _ hx (hf.trans f2) hp fun h3 f3 => ?_
      exact ⟨by have := gvn_len i p v; omega, (hf.trans f2).trans f3, (gvn_yes hp).symm⟩
  · obtain ⟨hf, rfl⟩ := q
    exact hend h' hf
theorem gvn_false (n : Nat) (v : Nat → EV) : gvn n (fun _ => false) v = [] := by
  unfold gvn
  simp
theorem gvn_true (n : Nat) (v : Nat → EV) : gvn n (fun _ => true) v = (List.range n).map v := by
  unfold gvn
  congr 1
  exact List.filter_eq_self.mpr (by simp)
end EE
set_option Elab.async false
set_option linter.all false
set_option maxRecDepth 100000
set_option maxHeartbeats 1000000
namespace EE
open PySem L2
section
variable (es : ES) (h : EH)
def kFld (c i : Nat) : EV → EH → Res EV := fun x h1 => match x with
  | .ref n => match objAt c h1 n with
    | some fs => match fs[i]? with
      | some (some v) => .ok v h1
      | _ => .no
    | none => .no
  | _ => .no
@[simp] theorem ap_fld (c i : Nat) (o : DE) : dFld c i o es h = (o es h).bind (kFld c i) := rfl
def kSetF2 (c i : Nat) (es : ES) (y : EV) : EV → EH → Res Flw := fun x h2 => match x with
  | .ref n => match objAt c h2 n with
    | some fs => .ok (.nx es) (h2.set n (.obj c (fs.set i (some y))))
    | none => .no
  | _ => .no
def kSetF (c i : Nat) (o : DE) (es : ES) : EV → EH → Res Flw := fun y h1 => (o es h1).bind (kSetF2 c i es y)
@[simp] theorem ap_setF (c i : Nat) (o v : DE) : dSetF c i o v es h = (v es h).bind (kSetF c i o es) := rfl
@[simp] theorem ap_kSetF (c i : Nat) (o : DE) (y : EV) : kSetF c i o es y h = (o es h).bind (kSetF2 c i es y) := rfl
def kAugF3 (c i n : Nat) (es : ES) : EV → EH → Res Flw := fun z h3 => match objAt c h3 n with
  | some fs' => .ok (.nx es) (h3.set n (.obj c (fs'.set i (some z))))
  | none => .no
def kAugF2 (c i : Nat) (f : D2) (n : Nat) (w : EV) (es : ES) : EV → EH → Res Flw := fun y h2 => (f w y h2).bind (kAugF3 c i n es)
def kAugF (c i : Nat) (f : D2) (v : DE) (es : ES) : EV → EH → Res Flw := fun x h1 => match x with
  | .ref n => match objAt c h1 n with
    | some fs => match fs[i]? with
      | some (some w) => (v es h1).bind (kAugF2 c i f n w es)
      | _ => .no
    | none => .no
  | _ => .no
@[simp] theorem ap_augF (c i : Nat) (f : D2) (o v : DE) : dAugF c i f o v es h = (o es h).bind (kAugF c i f v es) := rfl
@[simp] theorem ap_kAugF2 (c i : Nat) (f : D2) (n : Nat) (w y : EV) : kAugF2 c i f n w es y h = (f w y h).bind (kAugF3 c i n es) := rfl
def kMeth2 (fn : DL) (x : EV) : List EV → EH → Res EV := fun xs h2 => (fn (x :: xs) h2).noer
def kMeth (c : Nat) (fn : DL) (a : DA) (es : ES) : EV → EH → Res EV := fun x h1 => match x with
  | .ref n => match objAt c h1 n with
    | some _ => (a es h1).bind (kMeth2 fn x)
    | none => .no
  | _ => .no
@[simp] theorem ap_meth (c : Nat) (fn : DL) (o : DE) (a : DA) : dMeth c fn o a es h = (o es h).bind (kMeth c fn a es) := rfl
@[simp] theorem ap_kMeth2 (fn : DL) (x : EV) (xs : List EV) : kMeth2 fn x xs h = (fn (x :: xs) h).noer := rfl
def kMake2 (n : Nat) : EV → EH → Res EV := fun v h2 => match v with
  | .non => .ok (.ref n) h2
  | _ => .no
def kMake (c nf : Nat) (fn : DL) : List EV → EH → Res EV := fun xs h1 => (fn (.ref h1.length :: xs) (h1 ++ [.obj c (List.replicate nf none)])).noer.bind (kMake2 h1.length)
@[simp] theorem ap_make (c nf : Nat) (fn : DL) (a : DA) : dMake c nf fn a es h = (a es h).bind (kMake c nf fn) := rfl
@[simp] theorem ap_kMake (c nf : Nat) (fn : DL) (xs : List EV) : kMake c nf fn xs h = (fn (.ref h.length :: xs) (h ++ [.obj c (List.replicate nf none)])).noer.bind (kMake2 h.length) := rfl
@[simp] theorem ap_kMake2 (n : Nat) : kMake2 n .non h = .ok (.ref n) h := rfl
@[simp] theorem ap_newD (t : Bool) : dNewD t es h = .ok (.ref h.length) (h ++ [.dic t []]) := rfl
def kBMD (f : EV → DL) (a : DA) (es : ES) : EV → EH → Res EV := fun x h1 => match x with
  | .ref n => match mdicAt h1 n with
    | some _ => (a es h1).bind (kBM2 f x)
    | none => .no
  | _ => .no
@[simp] theorem ap_bmD (f : EV → DL) (o : DE) (a : DA) : dBMD f o a es h = (o es h).bind (kBMD f a es) := rfl
def kItK : EV → EH → Res Wlk := fun x h1 => match x with
  | .ref n => match lkAt h1 n with
    | some (_, kvs) => .ok ⟨none, kvs.map (·.1), fun _ x => x⟩ h1
    | none => .no
  | _ => .no
@[simp] theorem ap_itK (a : DE) : dItK a es h = (a es h).bind kItK := rfl
def kItIT : EV → EH → Res Wlk := fun x h1 => match x with
  | .ref n => match lkAt h1 n with
    | some (true, kvs) => .ok ⟨none, kvs.map (fun p => .tup [p.1, p.2]), fun _ x => x⟩ h1
    | _ => .no
  | _ => .no
@[simp] theorem ap_itIT (a : DE) : dItIT a es h = (a es h).bind kItIT := rfl
def kTru : EV → EH → Res Bool := fun x h1 => match x with
  | .tup xs => .ok (!xs.isEmpty) h1
  | .bl b => .ok b h1
  | .non => .ok false h1
  | .int i => .ok (i != 0) h1
  | .ref n => match lstAt h1 n with
    | some xs => .ok (!xs.isEmpty) h1
    | none => match mdicAt h1 n with
      | some (false, kvs) => .ok (!kvs.isEmpty) h1
      | _ => .no
  | _ => .no
@[simp] theorem ap_tru (a : DE) : dTru a es h = (a es h).bind kTru := rfl
@[simp] theorem ap_kTruT (xs : List EV) : kTru (.tup xs) h = .ok (!xs.isEmpty) h := rfl
def kDc2 (kd : Bool) : List (EV × EV) → EH → Res EV := fun ys h2 => .ok (.ref h2.length) (h2 ++ [.dic kd ys])
def kDc (kd : Bool) (g : DG) (t : DT) (k e : DE) (vs : List Nat) (es : ES) : Wlk → EH → Res EV := fun it h1 => match it.cur h1 with
  | none => .no
  | some xs => (dcGo kd it g t k e vs (xs.length + 1) 0 [] es h1).bind (kDc2 kd)
@[simp] theorem ap_dc (kd : Bool) (di : DI) (g : DG) (t : DT) (k e : DE) (vs : List Nat) : dDc kd di g t k e vs es h = (di es h).bind (kDc kd g t k e vs es) := rfl
end
section
variable {es : ES} {h : EH} {n : Nat}
theorem objAt_of {c : Nat} {fs : List (Option EV)} (e : h[n]? = some (.obj c fs)) : objAt c h n = some fs := by
  unfold objAt
  rw [e]
  exact if_pos rfl
theorem mdicAt_of {t : Bool} {kvs : List (EV × EV)} (e : h[n]? = some (.dic t kvs)) : mdicAt h n = some (t, kvs) := by
  unfold mdicAt
  rw [e]
theorem dicAt_of {t : Bool} {kvs : List (EV × EV)} (e : h[n]? = some (.dic t kvs) ∨ h[n]? = some (.lkd t kvs)) : dicAt h n = some (t, kvs) := by
  unfold dicAt
  rcases e with e | e <;> rw [e]
theorem lkAt_of {t : Bool} {kvs : List (EV × EV)} (e : h[n]? = some (.lkd t kvs)) : lkAt h n = some (t, kvs) := by
  unfold lkAt
  rw [e]
theorem lstAt_of {xs : List EV} (e : h[n]? = some (.lst xs)) : lstAt h n = some xs := by
  unfold lstAt
  rw [e]
theorem mutAt_of {xs : List EV} (e : h[n]? = some (.lst xs)) : mutAt h n = some xs := by
  unfold mutAt
  rw [e]
theorem kFld_ref {c i : Nat} {fs : List (Option EV)} {v : EV} (e : h[n]? = some (.obj c fs)) (ev : fs[i]? = some (some v)) : kFld c i (.ref n) h = .ok v h := by
  simp only [kFld, objAt_of e, ev]
theorem kSetF2_ref {c i : Nat} {fs : List (Option EV)} {y : EV} (e : h[n]? = some (.obj c fs)) : kSetF2 c i es y (.ref n) h = .ok (.nx es) (h.set n (.obj c (fs.set i (some y)))) := by
  simp only [kSetF2, objAt_of e]
theorem kAugF_ref {c i : Nat} {f : D2} {v : DE} {fs : List (Option EV)} {w : EV} (e : h[n]? = some (.obj c fs)) (ev : fs[i]? = some (some w)) : kAugF c i f v es (.ref n) h = (v es h).bind (kAugF2 c i f n w es) := by
  simp only [kAugF, objAt_of e, ev]
theorem kAugF3_ref {c i : Nat} {fs : List (Option EV)} {z : EV} (e : h[n]? = some (.obj c fs)) : kAugF3 c i n es z h = .ok (.nx es) (h.set n (.obj c (fs.set i (some z)))) := by
  simp only [kAugF3, objAt_of e]
theorem kMeth_ref {c : Nat} {fn : DL} {a : DA} {fs : List (Option EV)} (e : h[n]? = some (.obj c fs)) : kMeth c fn a es (.ref n) h = (a es h).bind (kMeth2 fn (.ref n)) := by
  simp only [kMeth, objAt_of e]
theorem kBMD_ref {f : EV → DL} {a : DA} {t : Bool} {kvs : List (EV × EV)} (e : h[n]? = some (.dic t kvs)) : kBMD f a es (.ref n) h = (a es h).bind (kBM2 f (.ref n)) := by
  simp only [kBMD, mdicAt_of e]
theorem kItK_ref {t : Bool} {kvs : List (EV × EV)} (e : h[n]? = some (.lkd t kvs)) : kItK (.ref n) h = .ok ⟨none, kvs.map (·.1), fun _ x => x⟩ h := by
  simp only [kItK, lkAt_of e]
theorem kItIT_ref {kvs : List (EV × EV)} (e : h[n]? = some (.lkd true kvs)) : kItIT (.ref n) h = .ok ⟨none, kvs.map (fun p => .tup [p.1, p.2]), fun _ x => x⟩ h := by
  simp only [kItIT, lkAt_of e]
theorem f_dget {t : Bool} {kvs : List (EV × EV)} {x v : EV} (e : h[n]? = some (.dic t kvs) ∨ h[n]? = some (.lkd t kvs)) (hg : dgetE t kvs x = some (some v)) : fDGet (.ref n) x h = .ok v h := by
  simp only [fDGet, dicAt_of e, hg]
theorem f_din {neg t : Bool} {kvs : List (EV × EV)} {x : EV} {o : Option EV} (e : h[n]? = some (.dic t kvs) ∨ h[n]? = some (.lkd t kvs)) (hg : dgetE t kvs x = some o) : fDIn neg x (.ref n) h = .ok (.bl (neg ^^ o.isSome)) h := by
  simp only [fDIn, dicAt_of e, hg]
theorem s_dic {t : Bool} {kvs kvs' : List (EV × EV)} {x v : EV} (e : h[n]? = some (.dic t kvs)) (hp : dputE t kvs x v = some kvs') (hl : kvs.length < 100000) : sDic (.ref n) x v h = .ok () (h.set n (.dic t kvs')) := by
  simp only [sDic, mdicAt_of e, hp, if_pos hl]
theorem m_pop_yes {kvs : List (EV × EV)} {x z v : EV} {k : List Key} (e : h[n]? = some (.dic true kvs)) (hk : tkeyOf x = some k) (hv : dval tkeyOf kvs k = some v) : mPopT (.ref n) [x, z] h = .ok v (h.set n (.dic true (ddrop tkeyOf kvs k))) := by
  simp only [mPopT, mdicAt_of e, hk, hv]
theorem m_pop_no {kvs : List (EV × EV)} {x z : EV} {k : List Key} (e : h[n]? = some (.dic true kvs)) (hk : tkeyOf x = some k) (hv : dval tkeyOf kvs k = none) : mPopT (.ref n) [x, z] h = .ok z h := by
  simp only [mPopT, mdicAt_of e, hk, hv]
theorem f_keysT {kvs : List (EV × EV)} (e : h[n]? = some (.dic true kvs) ∨ h[n]? = some (.lkd true kvs)) : fKeysT [.ref n] h = .ok (.ref h.length) (h ++ [.lst (kvs.map (·.1))]) := by
  simp only [fKeysT, dicAt_of e]
theorem f_tupL {xs : List EV} (e : lstAt h n = some xs) : fTupL [.ref n] h = .ok (.tup xs) h := by
  simp only [fTupL, e]
theorem lstAt_dic {t : Bool} {kvs : List (EV × EV)} (e : h[n]? = some (.dic t kvs) ∨ h[n]? = some (.lkd t kvs)) : lstAt h n = none := by
  unfold lstAt
  rcases e with e | e <;> rw [e]
theorem f_sortI {xs : List EV} {l : List Int} (e : lstAt h n = some xs) (hl : intsE xs = some l) : fSorted [.ref n] h = .ok (.ref h.length) (h ++ [.lst ((isort l).map EV.int)]) := by
  show (fSortI _ _).orElse _ = _
  simp only [fSortI, e, hl]
  rfl
theorem f_sortT {kvs : List (EV × EV)} {l : List (Int × Int)} (e : h[n]? = some (.dic true kvs) ∨ h[n]? = some (.lkd true kvs)) (hl : pairsE (kvs.map (·.1)) = some l) : fSorted [.ref n] h = .ok (.ref h.length) (h ++ [.lst ((psort l).map pairE)]) := by
  show (fSortI _ _).orElse _ = _
  simp only [fSortI, lstAt_dic e, orE_no]
  show (fSortT _ _).orElse _ = _
  simp only [fSortT, dicAt_of e, hl]
  rfl
theorem f_sortD {kvs : List (EV × EV)} {l : List Int} (e : h[n]? = some (.dic false kvs) ∨ h[n]? = some (.lkd false kvs)) (hl : intsE (kvs.map (·.1)) = some l) (h64 : l.length < 64) : fSorted [.ref n] h = .ok (.ref h.length) (h ++ [.lst ((isort l).map EV.int)]) := by
  show (fSortI _ _).orElse _ = _
  simp only [fSortI, lstAt_dic e, orE_no]
  show (fSortT _ _).orElse _ = _
  simp only [fSortT, dicAt_of e, orE_no]
  show fSortD _ _ = _
  simp only [fSortD, dicAt_of e, hl, if_pos h64]
theorem f_dictT {xs : List EV} {kvs : List (EV × EV)} (e : lstAt h n = some xs) (hk : dfoldT [] xs = some kvs) : fDictT [.ref n] h = .ok (.ref h.length) (h ++ [.dic true kvs]) := by
  simp only [fDictT, e, hk]
theorem lock_fr {h1 : EH} {t : Bool} {kvs : List (EV × EV)} (e : h[n]? = some (.dic t kvs)) (f : Fr [] (h.set n (.lkd t kvs)) h1) : Fr [] h (h1.set n (.dic t kvs)) := by
  have hl := (List.getElem?_eq_some_iff.mp e).1
  refine ⟨by rw [List.length_set]; have := f.1; rw [List.length_set] at this; exact this, fun m hm _ => ?_⟩
  by_cases hmn : n = m
  · subst hmn
    have := f.1
    rw [List.length_set] at this
    rw [List.getElem?_set_self (by omega), e]
  · rw [List.getElem?_set_ne hmn, f.2 m (by rw [List.length_set]; exact hm) (by simp), List.getElem?_set_ne hmn]
theorem lock_at {h1 : EH} {t : Bool} {kvs : List (EV × EV)} (e : h[n]? = some (.dic t kvs)) (f : Fr [] (h.set n (.lkd t kvs)) h1) : h1[n]? = some (.lkd t kvs) :=
  f.at (List.getElem?_set_self (List.getElem?_eq_some_iff.mp e).1) (by simp)
theorem tri_lockE {sel d : DE} {t : Bool} {kvs : List (EV × EV)} {hs : EH} {Q : EV → EH → Prop} (es0 : sel es h = .ok (.ref n) hs) (e : h[n]? = some (.dic t kvs))
    (hd : Tri (d es (h.set n (.lkd t kvs))) fun v h1 => Fr [] (h.set n (.lkd t kvs)) h1 ∧ Q v (h1.set n (.dic t kvs))) : Tri (dLockE sel d es h) Q := by
  unfold dLockE rLock
  simp only [es0, mdicAt_of e]
  rw [tri_bind, tri_noer]
  refine hd.mono fun v h1 ⟨f, q⟩ => ?_
  rw [lkAt_of (lock_at e f)]
  exact q
theorem tri_dc {kd : Bool} {it : Wlk} {g : DG} {t : DT} {k e : DE} {vs : List Nat} {xs : List EV} {Q : EV → EH → Prop} (J : Nat → List (EV × EV) → EH → Prop) (h0 : J 0 [] h) (hcur : ∀ i acc h, J i acc h → it.cur h = some xs)
    (hstep : ∀ (i : Nat) (x : EV) acc h, xs[i]? = some x → J i acc h → Tri (g (it.tl i x) (wip es vs) h) fun es1 h1 => Tri (t es1 h1) fun b h2 => if b = true then Tri (k es1 h2) fun y h3 => Tri (e es1 h3) fun z h4 => ∃ acc', dputE kd acc y z = some acc' ∧ acc.length < 50000 ∧ J (i + 1) acc' h4 else J (i + 1) acc h2)
    (hend : ∀ acc h, J xs.length acc h → Q (.ref h.length) (h ++ [.dic kd acc])) : Tri (kDc kd g t k e vs es it h) Q := by
  have key : ∀ (m i : Nat) acc h, i + m = xs.length + 1 → i ≤ xs.length → J i acc h → Tri (dcGo kd it g t k e vs m i acc es h) fun acc h => J xs.length acc h := by
    intro m
    induction m with
    | zero =>
      intro i acc h hi hl hI
      exact absurd hi (by omega)
    | succ m ih =>
      intro i acc h hi hl hI
      unfold dcGo
      rw [hcur i acc h hI]
      simp only
      cases hx : xs[i]? with
      | none =>
        have hge := List.getElem?_eq_none_iff.mp hx
        have : i = xs.length := by omega
        subst this
        exact hI
      | some x =>
        simp only
        have hs := hstep i x acc h hx hI
        have hlt := (List.getElem?_eq_some_iff.mp hx).1
        rw [tri_bind]
        refine hs.mono fun es1 h1 hs1 => ?_
        rw [tri_bind]
        refine hs1.mono fun b h2 hb => ?_
        cases b with
        | false => exact ih (i + 1) acc h2 (by omega) (by omega) hb
        | true =>
          simp only [if_true] at hb ⊢
          rw [tri_bind]
          refine hb.mono fun y h3 hy => ?_
          rw [tri_bind]
          refine hy.mono fun z h4 ⟨acc', q1, q2, q3⟩ => ?_
          rw [q1]
          simp only
          rw [if_pos q2]
          exact ih (i + 1) _ h4 (by omega) (by omega) q3
  unfold kDc
  rw [hcur 0 [] h h0]
  simp only
  rw [tri_bind]
  exact (key _ 0 [] h (by omega) (by omega) h0).mono fun acc h' hJ => hend acc h' hJ
end
end EE
set_option Elab.async false
set_option linter.all false
set_option maxRecDepth 100000
set_option maxHeartbeats 4000000
namespace LW
open PySem L2 EE
def b__law_start : DS :=
  (dSeq (dAsg (dC (.int 1)) (dName 1))
  (dSeq (dFor (dItL (dVar 0)) (dName 2)
  (dAsg (dOp fMod (dOp fAdd (dOp fAdd (dOp fMul (dVar 1) (dC (.int 48271))) (dVar 2)) (dC (.int 7))) (dC (.int 2147483647))) (dName 1)))
  (dRet (dLst (dCons (dVar 0) (dCons (dC (.int 0)) (dCons (dVar 1) (dCons (dC (.int 0)) dNil))))))))
def m__law_start : DL := dDef 1 3 b__law_start
theorem u__law_start (a0 : EV) (h : EH) : m__law_start [a0] h = (b__law_start [some a0, none, none] h).bind kDef := rfl
def b__law_drawn : DS :=
  (dSeq (dIfS (dB (dOp fGt (dOp fIx (dVar 0) (dC (.int 3))) (dC (.int 0)))) (dSeq (dAsg (dOp fMod (dOp fIx (dVar 0) (dC (.int 3))) (dVar 1)) (dName 2))
  (dSeq (dAsg (dOp fDiv (dOp fIx (dVar 0) (dC (.int 3))) (dVar 1)) (dGSub (dVar 0) (dC (.int 3)) sLst))
  (dRet (dVar 2))))
  dNext)
  (dSeq (dAsg (dOp fAdd (dOp fIx (dVar 0) (dC (.int 1))) (dC (.int 1))) (dGSub (dVar 0) (dC (.int 1)) sLst))
  (dSeq (dIfS (dB (dOp fLe (dOp fIx (dVar 0) (dC (.int 1))) (dCB fLen (dCons (dOp fIx (dVar 0) (dC (.int 0))) dNil)))) (dSeq (dAsg (dOp fIx (dOp fIx (dVar 0) (dC (.int 0))) (dOp fSub (dOp fIx (dVar 0) (dC (.int 1))) (dC (.int 1)))) (dName 3))
  (dSeq (dAsg (dIf (dB (dOp fGe (dVar 3) (dOp fPow (dC (.int 10)) (dC (.int 18))))) (dOp fDiv (dVar 3) (dVar 1)) (dC (.int 0))) (dGSub (dVar 0) (dC (.int 3)) sLst))
  (dRet (dOp fMod (dVar 3) (dVar 1)))))
  dNext)
  (dSeq (dAsg (dOp fMod (dOp fAdd (dOp fMul (dOp fIx (dVar 0) (dC (.int 2))) (dC (.int 48271))) (dC (.int 11))) (dC (.int 2147483647))) (dGSub (dVar 0) (dC (.int 2)) sLst))
  (dRet (dOp fMod (dOp fDiv (dOp fIx (dVar 0) (dC (.int 2))) (dC (.int 7))) (dVar 1)))))))
def m__law_drawn : DL := dDef 2 4 b__law_drawn
theorem u__law_drawn (a0 : EV) (a1 : EV) (h : EH) : m__law_drawn [a0, a1] h = (b__law_drawn [some a0, some a1, none, none] h).bind kDef := rfl
def b__law_same (rec : DL) : DS :=
  (dSeq (dIfS (dB (fIsi2 .tuple_ .list_ (dVar 1))) (dSeq (dIfS (dOr (dNot (dB (fIsi2 .tuple_ .list_ (dVar 0)))) (dB (dOp fNe (fIsi .list_ (dVar 0)) (fIsi .list_ (dVar 1))))) (dRet (dC (.bl false)))
  dNext)
  (dSeq (dIfS (dB (dOp fNe (dCB fLen (dCons (dVar 0) dNil)) (dCB fLen (dCons (dVar 1) dNil)))) (dRet (dC (.bl false)))
  dNext)
  (dRet (dOp fEq (dLc (dItR1 (dCons (dCB fLen (dCons (dVar 1) dNil)) dNil)) (dName 2) (dNot (dB (dCall rec (dCons (dOp fIx (dVar 0) (dVar 2)) (dCons (dOp fIx (dVar 1) (dVar 2)) dNil))))) (dVar 2) [2]) (dLst dNil)))))
  dNext)
  (dSeq (dIfS (dB (dOp (fIsN false) (dVar 1) (dC .non))) (dRet (dOp (fIsN false) (dVar 0) (dC .non)))
  dNext)
  (dSeq (dIfS (dB (fIsi .str_ (dVar 1))) (dRet (dAndV (fIsi .str_ (dVar 0)) (dOp fEq (dVar 0) (dVar 1))))
  dNext)
  (dSeq (dIfS (dOr (dB (fIsi .bool_ (dVar 1))) (dB (fIsi .bool_ (dVar 0)))) (dRet (dAndV (fIsi .bool_ (dVar 1)) (dAndV (fIsi .bool_ (dVar 0)) (dOp fEq (dVar 0) (dVar 1)))))
  dNext)
  (dRet (dAndV (fIsi .int_ (dVar 0)) (dOp fEq (dVar 0) (dVar 1))))))))
def m__law_same : Nat → DL
  | 0 => fun _ _ => .no
  | n + 1 => dDef 2 3 (b__law_same (m__law_same n))
theorem u__law_same (n : Nat) (a0 : EV) (a1 : EV) (h : EH) : m__law_same (n + 1) [a0, a1] h = (b__law_same (m__law_same n) [some a0, some a1, none] h).bind kDef := rfl
def b__law_ties : DS :=
  (dSeq (dAsg (dLst dNil) (dName 2))
  (dSeq (dFor (dItR1 (dCons (dCall m__law_drawn (dCons (dVar 0) (dCons (dOp fIx (dLst (dCons (dC (.int 3)) (dCons (dOp fAdd (dVar 1) (dC (.int 1))) (dCons (dOp fMul (dC (.int 3)) (dVar 1)) dNil)))) (dCall m__law_drawn (dCons (dVar 0) (dCons (dC (.int 3)) dNil)))) dNil))) dNil)) (dName 3)
  (dSeq (dAsg (dCall m__law_drawn (dCons (dVar 0) (dCons (dVar 1) dNil))) (dName 4))
  (dSeq (dAsg (dOp fMod (dOp fAdd (dOp fAdd (dVar 4) (dC (.int 1))) (dCall m__law_drawn (dCons (dVar 0) (dCons (dOp fSub (dVar 1) (dC (.int 1))) dNil)))) (dVar 1)) (dName 5))
  (dDrop (dBM mApp (dVar 2) (dCons (dTup (dCons (dVar 4) (dCons (dVar 5) dNil))) dNil))))))
  (dSeq (dIfS (dB (dOp fEq (dCall m__law_drawn (dCons (dVar 0) (dCons (dC (.int 3)) dNil))) (dC (.int 0)))) (dAsg (dOp fAdd (dVar 2) (dSl fSl (dLc (dItR1 (dCons (dOp fSub (dVar 1) (dC (.int 1))) dNil)) (dName 6) dYes (dTup (dCons (dVar 6) (dCons (dOp fAdd (dVar 6) (dC (.int 1))) dNil))) [6]) (dPart (some (dCall m__law_drawn (dCons (dVar 0) (dCons (dC (.int 2)) dNil))))) (dPart none))) (dName 2))
  dNext)
  (dRet (dVar 2)))))
def m__law_ties : DL := dDef 2 7 b__law_ties
theorem u__law_ties (a0 : EV) (a1 : EV) (h : EH) : m__law_ties [a0, a1] h = (b__law_ties [some a0, some a1, none, none, none, none, none] h).bind kDef := rfl
def b__law_near : DS :=
  (dRet (dLc (dItR1 (dCons (dVar 0) dNil)) (dName 2) dYes (dLc (dItR1 (dCons (dVar 0) dNil)) (dName 3) (dOr (dB (dOp fIn (dTup (dCons (dVar 2) (dCons (dVar 3) dNil))) (dVar 1))) (dB (dOp fIn (dTup (dCons (dVar 3) (dCons (dVar 2) dNil))) (dVar 1)))) (dVar 3) [3]) [2]))
def m__law_near : DL := dDef 2 4 b__law_near
theorem u__law_near (a0 : EV) (a1 : EV) (h : EH) : m__law_near [a0, a1] h = (b__law_near [some a0, some a1, none, none] h).bind kDef := rfl
def b_is_whole : DS :=
  (dSeq (dIfS (dOr (dB (fIsi .bool_ (dVar 0))) (dNot (dB (fIsi .int_ (dVar 0))))) (dRet (dC (.bl false)))
  dNext)
  (dRet (dChain fLe fLe (dVar 1) (dVar 0) (dVar 2))))
def m_is_whole : DL := dDef 3 3 b_is_whole
theorem u_is_whole (a0 : EV) (a1 : EV) (a2 : EV) (h : EH) : m_is_whole [a0, a1, a2] h = (b_is_whole [some a0, some a1, some a2] h).bind kDef := rfl
def b_is_two : DS :=
  (dSeq (dIfS (dOr (dNot (dB (fIsi .tuple_ (dVar 0)))) (dB (dOp fNe (dCB fLen (dCons (dVar 0) dNil)) (dC (.int 2))))) (dRet (dC (.bl false)))
  dNext)
  (dRet (dAndV (dCall m_is_whole (dCons (dOp fIx (dVar 0) (dC (.int 0))) (dCons (dC (.int 0)) (dCons (dVar 1) dNil)))) (dCall m_is_whole (dCons (dOp fIx (dVar 0) (dC (.int 1))) (dCons (dC (.int 0)) (dCons (dVar 2) dNil)))))))
def m_is_two : DL := dDef 3 3 b_is_two
theorem u_is_two (a0 : EV) (a1 : EV) (a2 : EV) (h : EH) : m_is_two [a0, a1, a2] h = (b_is_two [some a0, some a1, some a2] h).bind kDef := rfl
def b_is_pair : DS :=
  (dRet (dCall m_is_two (dCons (dVar 0) (dCons (dOp fSub (dVar 1) (dC (.int 1))) (dCons (dOp fSub (dVar 1) (dC (.int 1))) dNil)))))
def m_is_pair : DL := dDef 2 2 b_is_pair
theorem u_is_pair (a0 : EV) (a1 : EV) (h : EH) : m_is_pair [a0, a1] h = (b_is_pair [some a0, some a1] h).bind kDef := rfl
def b_check_count : DS :=
  (dIfS (dNot (dB (dCall m_is_whole (dCons (dVar 0) (dCons (dC (.int 2)) (dCons (dC (.int 8)) dNil)))))) dNever
  dNext)
def m_check_count : DL := dDef 1 1 b_check_count
theorem u_check_count (a0 : EV) (h : EH) : m_check_count [a0] h = (b_check_count [some a0] h).bind kDef := rfl
def b_check_house : DS :=
  (dIfS (dNot (dB (dCall m_is_whole (dCons (dVar 0) (dCons (dC (.int 0)) (dCons (dOp fSub (dVar 1) (dC (.int 1))) dNil)))))) dNever
  dNext)
def m_check_house : DL := dDef 2 2 b_check_house
theorem u_check_house (a0 : EV) (a1 : EV) (h : EH) : m_check_house [a0, a1] h = (b_check_house [some a0, some a1] h).bind kDef := rfl
def b__neighbours : DS :=
  (dSeq (dDrop (dCall m_check_count (dCons (dVar 0) dNil)))
  (dSeq (dFor (dItL (dVar 1)) (dName 2)
  (dIfS (dOr (dNot (dB (dCall m_is_pair (dCons (dVar 2) (dCons (dVar 0) dNil))))) (dB (dOp fEq (dOp fIx (dVar 2) (dC (.int 0))) (dOp fIx (dVar 2) (dC (.int 1)))))) dNever
  dNext))
  (dSeq (dAsg (dLc (dItR1 (dCons (dVar 0) dNil)) (dName 6) dYes (dLst dNil) [6]) (dName 3))
  (dSeq (dFor (dItL (dVar 1)) (dGTup 2 (dGCons (dName 4) (dGCons (dName 5) dGNil)))
  (dSeq (dDrop (dBM mApp (dOp fIx (dVar 3) (dVar 4)) (dCons (dVar 5) dNil)))
  (dDrop (dBM mApp (dOp fIx (dVar 3) (dVar 5)) (dCons (dVar 4) dNil)))))
  (dRet (dVar 3))))))
def m__neighbours : DL := dDef 2 7 b__neighbours
theorem u__neighbours (a0 : EV) (a1 : EV) (h : EH) : m__neighbours [a0, a1] h = (b__neighbours [some a0, some a1, none, none, none, none, none] h).bind kDef := rfl
end LW
set_option Elab.async false
set_option linter.all false
set_option maxRecDepth 100000
set_option maxHeartbeats 4000000
namespace LW
open PySem L2 EE
def StO (o : EO) : Prop := ∃ b x l : Int, o = .lst [.ref 0, .int b, .int x, .int l] ∧ 0 ≤ b ∧ 0 ≤ x ∧ x < 2147483647
def St (ns : List Int) (h : EH) (s : Nat) : Prop := ∃ o, h[s]? = some o ∧ StO o ∧ h[0]? = some (.ro (ns.map EV.int)) ∧ s ≠ 0
theorem St.set {ns : List Int} {h : EH} {s : Nat} {o : EO} (hs : St ns h s) (ho : StO o) : St ns (h.set s o) s := by
  obtain ⟨o', h1, h2, h3, h4⟩ := hs
  exact ⟨o, List.getElem?_set_self (List.getElem?_eq_some_iff.mp h1).1, ho, by rw [List.getElem?_set_ne h4]; exact h3, h4⟩
theorem St.lt {ns : List Int} {h : EH} {s : Nat} (hs : St ns h s) : s < h.length := by
  obtain ⟨o', h1, _⟩ := hs
  exact (List.getElem?_eq_some_iff.mp h1).1
theorem St.fr {ns : List Int} {h h' : EH} {s : Nat} (hs : St ns h s) (f : Fr [] h h') : St ns h' s := by
  obtain ⟨o', h1, h2, h3, h4⟩ := hs
  exact ⟨o', f.at h1 (by simp), h2, f.at h3 (by simp), h4⟩
theorem drawn {ns : List Int} {h : EH} {s : Nat} {m : Int} {Q : EV → EH → Prop} (hs : St ns h s) (h0 : 0 < m) (h1 : m ≤ 1000000000000000000) (q : ∀ (r : Int) o, 0 ≤ r → r < m → StO o → Q (.int r) (h.set s o)) : Tri (m__law_drawn [.ref s, .int m] h) Q := by
  obtain ⟨o, g1, ⟨b, x, l, rfl, hb, hx, hx2⟩, g3, g4⟩ := hs
  have hsl := (List.getElem?_eq_some_iff.mp g1).1
  have e : mutAt h s = some [.ref 0, .int b, .int x, .int l] := by unfold mutAt; rw [g1]
  have e' := lst_mut e
  have i3 : fIx (.ref s) (.int 3) h = .ok (.int l) h := f_ixL 3 e' 3 rfl rfl
  have i1 : fIx (.ref s) (.int 1) h = .ok (.int b) h := f_ixL 1 e' 1 rfl rfl
  have m64 : m < 18446744073709551616 := by omega
  rw [u__law_drawn]
  by_cases hl : 0 < l
  · simp [b__law_drawn, i3, hl, f_mod _ _ _ h0, f_div _ _ _ h0 m64, s_lst 3 e 3 rfl (by simp)]
    exact q _ _ (Int.emod_nonneg _ (by omega)) (Int.emod_lt_of_pos _ h0) ⟨b, x, l / m, rfl, hb, hx, hx2⟩
  · simp [b__law_drawn, i3, hl, i1, s_lst 1 e 1 rfl (by simp)]
    generalize eh1 : h.set s (.lst [.ref 0, .int (b + 1), .int x, .int l]) = h1
    have l1 : s < h1.length := by rw [← eh1, List.length_set]; exact hsl
    have e1 : mutAt h1 s = some [.ref 0, .int (b + 1), .int x, .int l] := by rw [← eh1]; exact mutAt_set hsl
    have e1' := lst_mut e1
    have es : lstAt h1 0 = some (ns.map EV.int) := by
      rw [← eh1, lstAt_ne g4]
      unfold lstAt
      rw [g3]
    have j1 : fIx (.ref s) (.int 1) h1 = .ok (.int (b + 1)) h1 := f_ixL 1 e1' 1 rfl rfl
    have j0 : fIx (.ref s) (.int 0) h1 = .ok (.ref 0) h1 := f_ixL 0 e1' 0 rfl rfl
    have j2 : fIx (.ref s) (.int 2) h1 = .ok (.int x) h1 := f_ixL 2 e1' 2 rfl rfl
    have hset : ∀ o, h1.set s o = h.set s o := fun o => by rw [← eh1, List.set_set]
    by_cases hn : b + 1 ≤ (ns.length : Int)
    · obtain ⟨k, rfl⟩ := Int.eq_ofNat_of_zero_le hb
      have hk : k < ns.length := by omega
      have jc : fIx (.ref 0) (.int (k : Int)) h1 = .ok (.int ns[k]) h1 := f_ixL _ es k rfl (by rw [List.getElem?_map, List.getElem?_eq_getElem hk]; rfl)
      by_cases hc : 1000000000000000000 ≤ ns[k]
      · simp [j0, j1, f_len es, hn, jc, hc, f_div _ _ _ h0 m64, s_lst 3 e1 3 rfl (by simp), f_mod _ _ _ h0, hset]
        exact q _ _ (Int.emod_nonneg _ (by omega)) (Int.emod_lt_of_pos _ h0) ⟨_, _, _, rfl, by omega, hx, hx2⟩
      · simp [j0, j1, f_len es, hn, jc, hc, f_div _ _ _ h0 m64, s_lst 3 e1 3 rfl (by simp), f_mod _ _ _ h0, hset]
        exact q _ _ (Int.emod_nonneg _ (by omega)) (Int.emod_lt_of_pos _ h0) ⟨_, _, _, rfl, by omega, hx, hx2⟩
    · simp [j0, j1, j2, f_len es, hn, f_mul _ _ _ (show -18446744073709551616 < (48271 : Int) by decide) (by decide), f_mod _ _ _ (show (0 : Int) < 2147483647 by decide), s_lst 2 e1 2 rfl (by simp)]
      have hx0 : 0 ≤ (x * 48271 + 11) % 2147483647 := Int.emod_nonneg _ (by decide)
      have hx1 : (x * 48271 + 11) % 2147483647 < 2147483647 := Int.emod_lt_of_pos _ (by decide)
      generalize (x * 48271 + 11) % 2147483647 = x' at hx0 hx1
      rw [hset]
      have k2 : fIx (.ref s) (.int 2) (h.set s (.lst [.ref 0, .int (b + 1), .int x', .int l])) = .ok (.int x') (h.set s (.lst [.ref 0, .int (b + 1), .int x', .int l])) := f_ixL 2 (lstAt_set hsl) 2 rfl rfl
      simp [k2, f_div _ _ _ (show (0 : Int) < 7 by decide) (by decide), f_mod _ _ _ h0]
      exact q _ _ (Int.emod_nonneg _ (by omega)) (Int.emod_lt_of_pos _ h0) ⟨_, _, _, rfl, by omega, hx0, hx1⟩
theorem drawnF {ns : List Int} {h : EH} {s : Nat} {m : Int} {Q : EV → EH → Prop} (hs : St ns h s) (h0 : 0 < m) (h1 : m ≤ 1000000000000000000) (q : ∀ (r : Int) h', 0 ≤ r → r < m → St ns h' s → Fr [s] h h' → h'.length = h.length → Q (.int r) h') : Tri (m__law_drawn [.ref s, .int m] h) Q :=
  drawn hs h0 h1 fun r o a b ho => q r _ a b (hs.set ho) ((Fr.refl _ _).set (.inl (by simp))) (List.length_set ..)
theorem start {ns : List Int} {h : EH} {Q : EV → EH → Prop} (hs : h[0]? = some (.ro (ns.map EV.int))) (q : ∀ h', St ns h' h.length → Fr [] h h' → Q (.ref h.length) h') : Tri (m__law_start [.ref 0] h) Q := by
  have es : lstAt h 0 = some (ns.map EV.int) := by
    unfold lstAt
    rw [hs]
  rw [u__law_start]
  simp [b__law_start, kItL_ref es, tri_bind]
  refine tri_for (xs := ns.map EV.int) (fun i es' h' => h' = h ∧ ∃ x c, es' = [some (.ref 0), some (.int x), c] ∧ 0 ≤ x ∧ x < 2147483647) ⟨rfl, 1, none, rfl, by decide, by decide⟩ (fun i es' h' ⟨e, _⟩ => by subst e; exact es) ?_ ?_
  · rintro i v es' h' K hv ⟨rfl, x, c, rfl, hx, hx2⟩ hK _ _ _
    rw [List.getElem?_map] at hv
    obtain ⟨n, hn, rfl⟩ := Option.map_eq_some_iff.mp hv
    simp [f_mul _ _ _ (show -18446744073709551616 < (48271 : Int) by decide) (by decide), f_mod _ _ _ (show (0 : Int) < 2147483647 by decide)]
    exact hK _ _ ⟨rfl, _, _, rfl, Int.emod_nonneg _ (by decide), Int.emod_lt_of_pos _ (by decide)⟩
  · rintro es' h' ⟨rfl, x, c, rfl, hx, hx2⟩
    simp
    refine q _ ⟨_, by simp, ⟨0, x, 0, rfl, by decide, hx, hx2⟩, ?_, ?_⟩ (Fr.app _ _ _)
    · rw [List.getElem?_append_left (List.getElem?_eq_some_iff.mp hs).1]
      exact hs
    · have := (List.getElem?_eq_some_iff.mp hs).1
      omega
end LW
set_option Elab.async false
set_option linter.all false
set_option maxRecDepth 100000
set_option maxHeartbeats 4000000
namespace LW
open PySem L2 EE
mutual
def Dt (h : EH) : PyData → EV → Prop
  | .none, x => x = .non
  | .bool b, x => x = .bl b
  | .int i, x => x = .int i
  | .str s, x => x = .str s
  | .list ds, x => ∃ n xs, x = .ref n ∧ lstAt h n = some xs ∧ Dts h ds xs
  | .tuple ds, x => ∃ xs, x = .tup xs ∧ Dts h ds xs
  | .dict _, _ => False
def Dts (h : EH) : List PyData → List EV → Prop
  | [], xs => xs = []
  | d :: ds, xs => ∃ x r, xs = x :: r ∧ Dt h d x ∧ Dts h ds r
end
mutual
theorem Dt.fr {h h' : EH} (f : Fr [] h h') : ∀ (d : PyData) (x : EV), Dt h d x → Dt h' d x
  | .none, x, e => by simp only [Dt] at e ⊢; exact e
  | .bool b, x, e => by simp only [Dt] at e ⊢; exact e
  | .int b, x, e => by simp only [Dt] at e ⊢; exact e
  | .str b, x, e => by simp only [Dt] at e ⊢; exact e
  | .list ds, x, e => by
    simp only [Dt] at e ⊢
    obtain ⟨n, xs, e1, e2, e3⟩ := e
    exact ⟨n, xs, e1, f.lst e2 (by simp), Dts.fr f ds xs e3⟩
  | .tuple ds, x, e => by
    simp only [Dt] at e ⊢
    obtain ⟨xs, e1, e3⟩ := e
    exact ⟨xs, e1, Dts.fr f ds xs e3⟩
  | .dict _, x, e => by simp only [Dt] at e
theorem Dts.fr {h h' : EH} (f : Fr [] h h') : ∀ (d : List PyData) (x : List EV), Dts h d x → Dts h' d x
  | [], x, e => by simp only [Dts] at e ⊢; exact e
  | d :: ds, x, e => by
    simp only [Dts] at e ⊢
    obtain ⟨y, r, e1, e2, e3⟩ := e
    exact ⟨y, r, e1, Dt.fr f d y e2, Dts.fr f ds r e3⟩
end
theorem Dts.length {h : EH} : ∀ {ds : List PyData} {xs : List EV}, Dts h ds xs → xs.length = ds.length
  | [], xs, e => by simp only [Dts] at e; subst e; rfl
  | d :: ds, xs, e => by
    simp only [Dts] at e
    obtain ⟨x, r, rfl, _, e3⟩ := e
    simp [Dts.length e3]
theorem Dts.get {h : EH} : ∀ {ds : List PyData} {xs : List EV} {i : Nat} {d : PyData}, Dts h ds xs → ds[i]? = some d → ∃ x, xs[i]? = some x ∧ Dt h d x
  | [], xs, i, d, e, he => by simp at he
  | d :: ds, xs, 0, d', e, he => by
    simp only [Dts] at e
    obtain ⟨x, r, rfl, e2, e3⟩ := e
    simp only [List.getElem?_cons_zero, Option.some.injEq] at he
    subst he
    exact ⟨x, rfl, e2⟩
  | d :: ds, xs, i + 1, d', e, he => by
    simp only [Dts] at e
    obtain ⟨x, r, rfl, e2, e3⟩ := e
    simp only [List.getElem?_cons_succ] at he ⊢
    exact Dts.get e3 he
theorem depth_get : ∀ {ds : List PyData} {i : Nat} {d : PyData}, ds[i]? = some d → d.depth ≤ PyData.depthAll ds
  | [], i, d, he => by simp at he
  | d :: ds, 0, d', he => by
    simp only [List.getElem?_cons_zero, Option.some.injEq] at he
    subst he
    simp only [PyData.depthAll]
    omega
  | d :: ds, i + 1, d', he => by
    simp only [List.getElem?_cons_succ] at he
    have := depth_get he
    simp only [PyData.depthAll]
    omega
theorem f_eqNil {h : EH} {a b : Nat} (ha : lstAt h a = some []) (hb : lstAt h b = some []) : fEq (.ref a) (.ref b) h = .ok (.bl true) h := by
  show (Res.no).orElse _ = _
  simp only [orE_no]
  have key : ∀ k, lstAt h k = some [] → dat h (.ref k) = some (.list []) := fun k hk => by
    unfold dat
    simp only [dat0, datF, hk, dat0s, Option.map_some]
  simp only [fEqD, key a ha, key b hb]
  rfl
theorem rng_at {n i : Nat} {x : EV} (h : (rng 0 n)[i]? = some x) : i < n ∧ x = .int (i : Int) := by
  obtain ⟨h1, h2⟩ := rng_get h
  exact ⟨h1, by rw [h2]; congr 1; omega⟩
mutual
def sm : PyData → Bool
  | .none => true
  | .bool _ => true
  | .int _ => true
  | .str _ => true
  | .list ds => decide (ds.length < 40000) && sms ds
  | .tuple ds => decide (ds.length < 40000) && sms ds
  | .dict _ => false
def sms : List PyData → Bool
  | [] => true
  | d :: ds => sm d && sms ds
end
theorem sm_get : ∀ {ds : List PyData} {i : Nat} {d : PyData}, sms ds = true → ds[i]? = some d → sm d = true
  | [], i, d, _, he => by simp at he
  | d :: ds, 0, d', hs, he => by
    simp only [List.getElem?_cons_zero, Option.some.injEq] at he
    subst he
    simp only [sms, Bool.and_eq_true] at hs
    exact hs.1
  | d :: ds, i + 1, d', hs, he => by
    simp only [List.getElem?_cons_succ] at he
    simp only [sms, Bool.and_eq_true] at hs
    exact sm_get hs.2 he
theorem same_comp {rec : DL} {h : EH} {ds : List PyData} {X Y : EV} {xs ys : List EV} (hx : Dts h ds xs) (hy : Dts h ds ys) (hl : ds.length < 40000)
    (ix : ∀ h', Fr [] h h' → ∀ (i : Nat) (x : EV), xs[i]? = some x → fIx X (.int (i : Int)) h' = .ok x h') (iy : ∀ h', Fr [] h h' → ∀ (i : Nat) (x : EV), ys[i]? = some x → fIx Y (.int (i : Int)) h' = .ok x h')
    (ih : ∀ h', Fr [] h h' → ∀ (i : Nat) (d : PyData) (x y : EV), ds[i]? = some d → Dt h' d x → Dt h' d y → Tri (rec [x, y] h') fun v h2 => v = .bl true ∧ Fr [] h' h2)
    {Q : EV → EH → Prop} (q : ∀ k h', lstAt h' k = some [] → Fr [] h h' → Q (.ref k) h') :
    Tri (kLc (dName 2) (dNot (dB (dCall rec (dCons (dOp fIx (dVar 0) (dVar 2)) (dCons (dOp fIx (dVar 1) (dVar 2)) dNil))))) (dVar 2) [2] [some X, some Y, none] ⟨none, rng 0 (ds.length : Int).toNat, fun _ x => x⟩ h) Q := by
  refine tri_lcP (xs := rng 0 (ds.length : Int).toNat) (fun _ => false) (fun _ => .non) (by rw [rng_len]; omega) (fun h' _ => rfl) (fun i x h' K hxi hf hK => ?_) (fun _ _ _ _ _ _ hp _ => by cases hp) fun h' hf => ?_
  · obtain ⟨h1, rfl⟩ := rng_at hxi
    have hi : i < ds.length := by omega
    obtain ⟨x, e1, e2⟩ := hx.get (List.getElem?_eq_getElem hi)
    obtain ⟨y, e3, e4⟩ := hy.get (List.getElem?_eq_getElem hi)
    simp [wip, ix h' hf i x e1, iy h' hf i y e3, tri_bind]
    refine (ih h' hf i _ x y (List.getElem?_eq_getElem hi) (Dt.fr hf _ _ e2) (Dt.fr hf _ _ e4)).mono ?_
    rintro v h2 ⟨rfl, f2⟩
    exact hK _ f2
  · refine q _ _ ?_ (hf.trans (Fr.app _ _ _))
    rw [gvn_false]
    simp
theorem same : ∀ (n : Nat) (d : PyData) (x y : EV) (h : EH), Dt h d x → Dt h d y → d.depth < n → sm d = true → Tri (m__law_same n [x, y] h) fun v h' => v = .bl true ∧ Fr [] h h'
  | 0, d, x, y, h, _, _, hd, _ => by omega
  | n + 1, .none, x, y, h, hx, hy, hd, _ => by
    simp only [Dt] at hx hy
    subst hx hy
    rw [u__law_same]
    simp [b__law_same, Ty.isa, Fr.refl]
  | n + 1, .bool b, x, y, h, hx, hy, hd, _ => by
    simp only [Dt] at hx hy
    subst hx hy
    rw [u__law_same]
    simp [b__law_same, Ty.isa, Fr.refl]
  | n + 1, .int b, x, y, h, hx, hy, hd, _ => by
    simp only [Dt] at hx hy
    subst hx hy
    rw [u__law_same]
    simp [b__law_same, Ty.isa, Fr.refl]
  | n + 1, .str b, x, y, h, hx, hy, hd, _ => by
    simp only [Dt] at hx hy
    subst hx hy
    rw [u__law_same]
    simp [b__law_same, Ty.isa, Fr.refl]
  | n + 1, .dict _, x, y, h, hx, hy, hd, _ => by simp only [Dt] at hx
  | n + 1, .tuple ds, x, y, h, hx, hy, hd, hs => by
    simp only [Dt] at hx hy
    obtain ⟨xs, rfl, hx⟩ := hx
    obtain ⟨ys, rfl, hy⟩ := hy
    simp only [sm, Bool.and_eq_true, decide_eq_true_eq] at hs
    rw [u__law_same]
    simp [b__law_same, Ty.isa, Fr.refl, hx.length, hy.length, ap_kItR1 h (ds.length : Int) (by omega) (by omega), tri_bind]
    refine same_comp hx hy hs.1 (fun h' _ i x e => f_ixT _ i rfl e) (fun h' _ i x e => f_ixT _ i rfl e) (fun h' hf i d x y hd2 h1 h2 => same n d x y h' h1 h2 (by have := depth_get hd2; simp only [PyData.depth] at hd; omega) (sm_get hs.2 hd2)) fun k h' hk hf => ?_
    simp [f_eqNil (lstAt_app hk) lstAt_new, hf.trans (Fr.app _ _ _)]
  | n + 1, .list ds, x, y, h, hx, hy, hd, hs => by
    simp only [Dt] at hx hy
    obtain ⟨a, xs, rfl, hxs, hx⟩ := hx
    obtain ⟨b, ys, rfl, hys, hy⟩ := hy
    simp only [sm, Bool.and_eq_true, decide_eq_true_eq] at hs
    rw [u__law_same]
    simp [b__law_same, Ty.isa, Fr.refl, hx.length, hy.length, kIsi2_lst _ _ hxs, kIsi2_lst _ _ hys, kIsi_lst _ hxs, kIsi_lst _ hys, f_len hxs, f_len hys, ap_kItR1 h (ds.length : Int) (by omega) (by omega), tri_bind]
    refine same_comp hx hy hs.1 (fun h' f i x e => f_ixL _ (f.lst hxs (by simp)) i rfl e) (fun h' f i x e => f_ixL _ (f.lst hys (by simp)) i rfl e) (fun h' hf i d x y hd2 h1 h2 => same n d x y h' h1 h2 (by have := depth_get hd2; simp only [PyData.depth] at hd; omega) (sm_get hs.2 hd2)) fun k h' hk hf => ?_
    simp [f_eqNil (lstAt_app hk) lstAt_new, hf.trans (Fr.app _ _ _)]
end LW
set_option Elab.async false
set_option linter.all false
set_option maxRecDepth 100000
set_option maxHeartbeats 4000000
namespace LW
open PySem L2 EE
abbrev prE (p : Nat × Nat) : EV := .tup [.int (p.1 : Int), .int (p.2 : Int)]
abbrev prD (p : Nat × Nat) : PyData := .tuple [.int (p.1 : Int), .int (p.2 : Int)]
def prs (ps : List (Nat × Nat)) : List EV := ps.map prE
theorem dat_pr {h : EH} (a b : Int) : dat h (.tup [.int a, .int b]) = some (.tuple [.int a, .int b]) := by
  simp [dat, dat0, dat0s]
theorem dat0s_prs (f : Nat → Option (List PyData)) : ∀ ps : List (Nat × Nat), dat0s f (prs ps) = some (ps.map prD)
  | [] => by simp [prs, dat0s]
  | p :: ps => by
    have := dat0s_prs f ps
    simp only [prs] at this ⊢
    simp [dat0s, dat0, this]
theorem datF_prs {h : EH} {t : Nat} {ps : List (Nat × Nat)} (e : lstAt h t = some (prs ps)) (m : Nat) : datF h (m + 1) t = some (ps.map prD) := by
  simp only [datF, e]
  exact dat0s_prs _ ps
theorem eqv_pr (a b c d : Int) : PyData.eqv (.tuple [.int a, .int b]) (.tuple [.int c, .int d]) = (decide (a = c) && decide (b = d)) := by
  simp only [PyData.eqv, PyData.eqvAll, Bool.and_true]
  rw [Bool.beq_eq_decide_eq, Bool.beq_eq_decide_eq]
theorem canLay_prs : ∀ ps : List (Nat × Nat), PyData.canLayAll0 (ps.map prD) = true
  | [] => by simp [PyData.canLayAll0]
  | p :: ps => by simp [PyData.canLayAll0, PyData.canLay0, canLay_prs ps]
theorem depth_prs : ∀ ps : List (Nat × Nat), PyData.depthAll (ps.map prD) ≤ 1
  | [] => by simp [PyData.depthAll]
  | p :: ps => by
    have := depth_prs ps
    simp only [List.map_cons, PyData.depthAll, PyData.depth]
    omega
theorem shaped_prs (ps : List (Nat × Nat)) : SeqAt.shaped (.list (ps.map prD)) = true := by
  unfold SeqAt.shaped
  have := depth_prs ps
  simp only [PyData.canLay0, canLay_prs, PyData.depth, Bool.true_and, decide_eq_true_eq]
  exact decide_eq_true (Nat.le_trans (Nat.succ_le_succ this) (show 2 ≤ 64 by decide))
theorem shaped_pr (a b : Int) : SeqAt.shaped (.tuple [.int a, .int b]) = true := by
  simp [SeqAt.shaped, PyData.canLay0, PyData.canLayAll0, PyData.depth, PyData.depthAll]
theorem f_inPr {h : EH} {t : Nat} {ps : List (Nat × Nat)} (e : lstAt h t = some (prs ps)) (a b : Nat) : fIn (.tup [.int (a : Int), .int (b : Int)]) (.ref t) h = .ok (.bl (decide ((a, b) ∈ ps))) h := by
  show fInL false _ _ _ = _
  simp only [fInL, dat_pr, datF_prs e 3, shaped_pr, shaped_prs, Bool.and_self, if_true]
  congr 2
  rw [Bool.eq_iff_iff]
  simp only [Bool.and_true, Bool.false_bne, List.any_map, List.any_eq_true, Function.comp_apply, decide_eq_true_eq]
  constructor
  · rintro ⟨⟨c, d⟩, hm, he⟩
    rw [eqv_pr] at he
    simp only [Bool.and_eq_true, decide_eq_true_eq] at he
    have e1 : c = a := by omega
    have e2 : d = b := by omega
    rw [← e1, ← e2]
    exact hm
  · intro hm
    exact ⟨(a, b), hm, by rw [eqv_pr]; simp⟩
def TiesOk (n : Nat) (ps : List (Nat × Nat)) : Prop := ∀ p ∈ ps, p.1 < n ∧ p.2 < n ∧ p.1 ≠ p.2
theorem other_ne {n a r : Int} (h2 : 2 ≤ n) (h8 : n ≤ 8) (ha : 0 ≤ a) (ha2 : a < n) (hr : 0 ≤ r) (hr2 : r < n - 1) : 0 ≤ (a + 1 + r) % n ∧ (a + 1 + r) % n < n ∧ (a + 1 + r) % n ≠ a := by
  have : n = 2 ∨ n = 3 ∨ n = 4 ∨ n = 5 ∨ n = 6 ∨ n = 7 ∨ n = 8 := by omega
  rcases this with rfl | rfl | rfl | rfl | rfl | rfl | rfl <;> omega
theorem prs_app (ps qs : List (Nat × Nat)) : prs ps ++ prs qs = prs (ps ++ qs) := by simp [prs]
theorem cut_drop (ps : List EV) (k : Nat) : cutE ps (some (k : Int)) none = ps.drop k := by
  unfold cutE
  rw [show HT.sIx ps.length 0 (some (k : Int)) = min k ps.length from HT.sIx_nat _ _ _, show HT.sIx ps.length ps.length none = ps.length from rfl]
  by_cases hk : k ≤ ps.length
  · rw [Nat.min_eq_left hk]
    apply List.take_of_length_le
    rw [List.length_drop]
    exact Nat.le_refl _
  · rw [Nat.min_eq_right (by omega), List.drop_of_length_le (Nat.le_refl _), List.drop_of_length_le (by omega)]
    simp
theorem ties {ns : List Int} {h : EH} {s n : Nat} {Q : EV → EH → Prop} (hs : St ns h s) (h2 : 2 ≤ n) (h8 : n ≤ 8) (q : ∀ t ps h', TiesOk n ps → ps.length ≤ 40 → mutAt h' t = some (prs ps) → h.length ≤ t → St ns h' s → Fr [s] h h' → Q (.ref t) h') : Tri (m__law_ties [.ref s, .int (n : Int)] h) Q := by
  rw [u__law_ties]
  simp [b__law_ties, tri_bind, f_mulL _ 3 (n : Int) (by decide) (by decide)]
  have hs1 : St ns (h ++ [.lst []] ++ [.lst [.int 3, .int (n + 1), .int (3 * n)]]) s := (hs.fr (Fr.app _ _ _)).fr (Fr.app _ _ _)
  have f1 : Fr [s] h (h ++ [.lst []] ++ [.lst [.int 3, .int (n + 1), .int (3 * n)]]) := (Fr.app _ _ _).trans (Fr.app _ _ _)
  have hc : h.length ≠ s := by have := hs.lt; omega
  have e0 : mutAt (h ++ [.lst []] ++ [.lst [.int 3, .int (n + 1), .int (3 * n)]]) h.length = some [] := mutAt_app mutAt_new
  have e1 : lstAt (h ++ [.lst []] ++ [.lst [.int 3, .int (n + 1), .int (3 * n)]]) (h ++ [EO.lst []]).length = some [.int 3, .int (n + 1), .int (3 * n)] := lstAt_new
  simp only [List.append_assoc, List.cons_append, List.nil_append, List.length_append, List.length_singleton] at hs1 f1 e0 e1
  refine drawnF hs1 (by decide) (by decide) fun r1 ha r1a r1b hsa fa la => ?_
  have e0a := fa.mut e0 (by simp [hc])
  have e1a := fa.lst e1 (by simp; have := hs.lt; omega)
  have f1a := f1.trans fa
  have : ∃ m : Int, fIx (.ref (h.length + 1)) (.int r1) ha = .ok (.int m) ha ∧ 0 < m ∧ m ≤ 24 := by
    have : r1 = 0 ∨ r1 = 1 ∨ r1 = 2 := by omega
    rcases this with rfl | rfl | rfl
    · exact ⟨3, f_ixL _ e1a 0 rfl rfl, by omega, by omega⟩
    · exact ⟨n + 1, f_ixL _ e1a 1 rfl rfl, by omega, by omega⟩
    · exact ⟨3 * n, f_ixL _ e1a 2 rfl rfl, by omega, by omega⟩
  obtain ⟨m, em, hm, hm2⟩ := this
  simp only [em, tri_ok]
  refine drawnF hsa hm (by omega) fun r2 hb r2a r2b hsb fb lb => ?_
  have e0b := fb.mut e0a (by simp [hc])
  have f1b := f1a.trans fb
  simp only [ap_kItR1 hb r2 (by omega) (by omega), tri_ok]
  refine tri_for (xs := rng 0 r2.toNat) (fun i es h' => ∃ ps a b c, es = [some (.ref s), some (.int n), some (.ref h.length), a, b, c, none] ∧ TiesOk n ps ∧ ps.length = i ∧ mutAt h' h.length = some (prs ps) ∧ St ns h' s ∧ Fr [s] h h')
    ⟨[], none, none, none, rfl, fun _ hp => by simp at hp, rfl, e0b, hsb, f1b⟩ (fun _ _ _ _ => rfl) ?_ ?_
  · rintro i x es h' K hx ⟨ps, a, b, c, rfl, hp, hpl, hmu, hst, hf⟩ hK _ _ _
    obtain ⟨hi, rfl⟩ := rng_at hx
    simp [tri_bind]
    refine drawnF hst (by omega) (by omega) fun r3 hc3 r3a r3b hsc fc lc => ?_
    have hmu3 := fc.mut hmu (by simp [hc])
    simp
    refine drawnF hsc (by omega) (by omega) fun r4 hc4 r4a r4b hsd fd ld => ?_
    have hmu4 := fd.mut hmu3 (by simp [hc])
    obtain ⟨o1, o2, o3⟩ := other_ne (n := (n : Int)) (by omega) (by omega) r3a r3b r4a r4b
    simp [f_mod _ _ _ (show (0 : Int) < n by omega), kBM_ref _ _ _ (lst_mut hmu4), m_append hmu4 (by simp [prs]; omega)]
    obtain ⟨k1, rfl⟩ := Int.eq_ofNat_of_zero_le r3a
    obtain ⟨k2, hk2⟩ := Int.eq_ofNat_of_zero_le o1
    rw [hk2] at o2 o3 ⊢
    have hlt := mutAt_lt hmu4
    refine hK _ _ ⟨ps ++ [(k1, k2)], _, _, _, rfl, ?_, by simp [hpl], ?_, ?_, ((hf.trans fc).trans fd).set (.inr (Nat.le_refl _))⟩
    · intro p hpm
      rcases List.mem_append.mp hpm with hpm | hpm
      · exact hp p hpm
      · rw [List.mem_singleton.mp hpm]
        exact ⟨by show k1 < n; omega, by show k2 < n; omega, by show k1 ≠ k2; omega⟩
    · rw [mutAt_set hlt, ← prs_app]
      rfl
    · obtain ⟨o, w1, w2, w3, w4⟩ := hsd
      refine ⟨o, by rw [List.getElem?_set_ne hc]; exact w1, w2, ?_, w4⟩
      rw [List.getElem?_set_ne]
      · exact w3
      · have := hs.lt
        omega
  · rintro es h' ⟨ps, a, b, c, rfl, hp, hpl, hmu, hst, hf⟩
    rw [rng_len] at hpl
    simp [tri_bind]
    refine drawnF hst (by decide) (by decide) fun r5 hd r5a r5b hse fe le => ?_
    have hmu5 := fe.mut hmu (by simp [hc])
    have f5 := hf.trans fe
    by_cases h5 : r5 = 0
    · simp [h5, ap_kItR1 hd ((n : Int) - 1) (by omega) (by omega), tri_bind]
      refine tri_lcP (xs := rng 0 (n - 1)) (fun _ => true) (fun i => prE (i, i + 1)) (by rw [rng_len]; omega) (fun _ _ => rfl) (fun i x h' K hx hf hK => ?_) (fun i x h' K hx hf _ hK => ?_) fun h6 f6 => ?_
      · simp
        exact hK _ (Fr.refl _ _)
      · obtain ⟨hi, rfl⟩ := rng_at hx
        simp [wip]
        exact hK _ (Fr.refl _ _)
      · rw [gvn_true, rng_len]
        have hst6 := (hse.fr f6).fr (Fr.app _ _ [EO.lst ((List.range (n - 1)).map fun i => prE (i, i + 1))])
        have hmu6 := (f6.trans (Fr.app _ _ [EO.lst ((List.range (n - 1)).map fun i => prE (i, i + 1))])).mut hmu5 (by simp)
        have hnew : lstAt (h6 ++ [EO.lst ((List.range (n - 1)).map fun i => prE (i, i + 1))]) h6.length = some ((List.range (n - 1)).map fun i => prE (i, i + 1)) := lstAt_new
        have f7 := f5.trans ((f6.trans (Fr.app _ _ [EO.lst ((List.range (n - 1)).map fun i => prE (i, i + 1))])).weak (by simp))
        generalize h6 ++ [EO.lst ((List.range (n - 1)).map fun i => prE (i, i + 1))] = h7 at *
        refine drawnF hst6 (by decide) (by decide) fun r8 h8' r8a r8b hs8 f8 l8 => ?_
        have hmu8 := f8.mut hmu6 (by simp [hc])
        have hne6 : h6.length ≠ s := by
          have := hs.lt
          have := f6.1
          have := fe.1
          have := hf.1
          omega
        have hnew8 := f8.lst hnew (by simp [hne6])
        obtain ⟨k, rfl⟩ := Int.eq_ofNat_of_zero_le r8a
        have ep : ((List.range (n - 1)).map fun i => prE (i, i + 1)) = prs ((List.range (n - 1)).map fun i => (i, i + 1)) := by
          unfold prs
          rw [List.map_map]
          rfl
        rw [ep] at hnew8
        simp [f_slice hnew8, cut_drop]
        have ed : (prs ((List.range (n - 1)).map fun i => (i, i + 1))).drop k = prs (((List.range (n - 1)).map fun i => (i, i + 1)).drop k) := by
          unfold prs
          rw [List.map_drop]
        rw [ed]
        have hmu9 := mutAt_app (t := [EO.lst (prs (((List.range (n - 1)).map fun i => (i, i + 1)).drop k))]) hmu8
        have hl9 : (prs ps).length + (prs (((List.range (n - 1)).map fun i => (i, i + 1)).drop k)).length ≤ 100000 := by
          simp [prs]
          omega
        simp [f_cat hmu9 mutAt_new hl9, prs_app]
        refine q _ (ps ++ ((List.range (n - 1)).map fun i => (i, i + 1)).drop k) _ ?_ ?_ ?_ ?_ ?_ ?_
        · intro p hpm
          rcases List.mem_append.mp hpm with hpm | hpm
          · exact hp p hpm
          · obtain ⟨i, hi, rfl⟩ := List.mem_map.mp (List.mem_of_mem_drop hpm)
            have := List.mem_range.mp hi
            exact ⟨by show i < n; omega, by show i + 1 < n; omega, by show i ≠ i + 1; omega⟩
        · simp
          omega
        · have e9 : h8'.length + 1 = (h8' ++ [EO.lst (prs (((List.range (n - 1)).map fun i => (i, i + 1)).drop k))]).length := by simp
          rw [e9, show h8' ++ [EO.lst (prs (((List.range (n - 1)).map fun i => (i, i + 1)).drop k)), EO.lst (prs (ps ++ ((List.range (n - 1)).map fun i => (i, i + 1)).drop k))] = (h8' ++ [EO.lst (prs (((List.range (n - 1)).map fun i => (i, i + 1)).drop k))]) ++ [EO.lst (prs (ps ++ ((List.range (n - 1)).map fun i => (i, i + 1)).drop k))] by simp]
          exact mutAt_new
        · have := (f7.trans f8).1
          omega
        · exact hs8.fr (Fr.app _ _ _)
        · exact (f7.trans f8).trans (Fr.app _ _ _)
    · simp [h5]
      exact q _ ps _ hp (by omega) hmu5 (Nat.le_refl _) hse f5
end LW
set_option Elab.async false
set_option linter.all false
set_option maxRecDepth 100000
set_option maxHeartbeats 4000000
namespace LW
open PySem L2 EE
def adj (ps : List (Nat × Nat)) (i k : Nat) : Bool := decide ((i, k) ∈ ps) || decide ((k, i) ∈ ps)
def nats (xs : List Nat) : List EV := xs.map fun (i : Nat) => EV.int (i : Int)
theorem gvn_nats (n : Nat) (p : Nat → Bool) : gvn n p (fun i => .int (i : Int)) = nats ((List.range n).filter p) := rfl
def Rows (h : EH) (r : Nat) (n : Nat) (f : Nat → List EV) : Prop := ∃ rs : List Nat, lstAt h r = some (rs.map EV.ref) ∧ rs.length = n ∧ ∀ (i k : Nat), rs[i]? = some k → lstAt h k = some (f i)
theorem Rows.fr {h h' : EH} {r n : Nat} {f : Nat → List EV} (e : Rows h r n f) (fr : Fr [] h h') : Rows h' r n f := by
  obtain ⟨rs, h1, h2, h3⟩ := e
  exact ⟨rs, fr.lst h1 (by simp), h2, fun i k hk => fr.lst (h3 i k hk) (by simp)⟩
theorem Rows.get {h : EH} {r n : Nat} {f : Nat → List EV} (e : Rows h r n f) {i : Nat} (hi : i < n) : ∃ k, fIx (.ref r) (.int (i : Int)) h = .ok (.ref k) h ∧ lstAt h k = some (f i) := by
  obtain ⟨rs, h1, h2, h3⟩ := e
  have hl : i < rs.length := by omega
  exact ⟨rs[i], f_ixL _ h1 i rfl (by rw [List.getElem?_map, List.getElem?_eq_getElem hl]; rfl), h3 i _ (List.getElem?_eq_getElem hl)⟩
theorem near {h : EH} {t n : Nat} {ps : List (Nat × Nat)} {Q : EV → EH → Prop} (ht : lstAt h t = some (prs ps)) (h8 : n ≤ 8) (q : ∀ r h', Rows h' r n (fun i => nats ((List.range n).filter (adj ps i))) → Fr [] h h' → Q (.ref r) h') : Tri (m__law_near [.int (n : Int), .ref t] h) Q := by
  rw [u__law_near]
  simp [b__law_near, tri_bind, ap_kItR1 h (n : Int) (by omega) (by omega)]
  refine tri_lcJ (xs := rng 0 n) (fun i acc h' => Fr [] h h' ∧ ∃ rs : List Nat, acc = rs.map EV.ref ∧ rs.length = i ∧ i ≤ n ∧ ∀ (j k : Nat), rs[j]? = some k → lstAt h' k = some (nats ((List.range n).filter (adj ps j))))
    ⟨Fr.refl _ _, [], rfl, rfl, Nat.zero_le _, fun j k hk => by simp at hk⟩ (fun _ _ _ _ => rfl) (fun i acc h' q => ?_) (fun i x acc h' K hx q _ hK => ?_) fun acc h' q2 => ?_
  · obtain ⟨_, rs, rfl, hl, hn, _⟩ := q
    simp
    omega
  · obtain ⟨hf, rs, rfl, hl, hn, hr⟩ := q
    obtain ⟨hi, rfl⟩ := rng_at hx
    simp
    refine hK _ fun Ke hKe => ?_
    simp [wip, tri_bind, ap_kItR1 h' (n : Int) (by omega) (by omega)]
    refine tri_lcP (xs := rng 0 n) (adj ps i) (fun k => .int (k : Int)) (by rw [rng_len]; omega) (fun _ _ => rfl) (fun k x h2 K hx2 hf2 hK2 => ?_) (fun k x h2 K hx2 hf2 _ hK2 => ?_) fun h2 f2 => ?_
    · obtain ⟨hk, rfl⟩ := rng_at hx2
      simp [wip, tri_bind, f_inPr ((hf.trans hf2).lst ht (by simp))]
      have e : adj ps i k = (decide ((i, k) ∈ ps) || decide ((k, i) ∈ ps)) := rfl
      by_cases h1 : (i, k) ∈ ps
      · simp [h1]
        have := hK2 h2 (Fr.refl _ _)
        simp [e, h1] at this
        exact this
      · simp [h1, f_inPr ((hf.trans hf2).lst ht (by simp))]
        have := hK2 h2 (Fr.refl _ _)
        simp [e, h1] at this
        exact this
    · obtain ⟨hk, rfl⟩ := rng_at hx2
      simp [wip]
      exact hK2 h2 (Fr.refl _ _)
    · rw [rng_len, gvn_nats]
      refine hKe _ _ ⟨(hf.trans f2).trans (Fr.app _ _ _), rs ++ [h2.length], by simp, by simp [hl], by omega, fun j k hjk => ?_⟩
      by_cases hj : j < rs.length
      · rw [List.getElem?_append_left hj] at hjk
        exact lstAt_app (f2.lst (hr j k hjk) (by simp))
      · have hj2 : j = rs.length := by
          have := (List.getElem?_eq_some_iff.mp hjk).1
          simp at this
          omega
        subst hj2
        simp at hjk
        subst hjk
        rw [hl]
        exact lstAt_new
  · obtain ⟨hf, rs, rfl, hl, hn, hr⟩ := q2
    rw [rng_len] at hl
    refine q _ _ ⟨rs, lstAt_new, hl, fun i k hk => lstAt_app (hr i k hk)⟩ (hf.trans (Fr.app _ _ _))
theorem whole (v lo hi : Int) (h : EH) : m_is_whole [.int v, .int lo, .int hi] h = .ok (.bl (decide (lo ≤ v) && decide (v ≤ hi))) h := by
  rw [u_is_whole]
  by_cases h1 : lo ≤ v
  · simp [b_is_whole, Ty.isa, h1]
  · simp [b_is_whole, Ty.isa, h1]
theorem count (n : Int) (h : EH) (h2 : 2 ≤ n) (h8 : n ≤ 8) : m_check_count [.int n] h = .ok .non h := by
  rw [u_check_count]
  simp [b_check_count, whole, h2, h8]
theorem house (a n : Int) (h : EH) (h2 : 0 ≤ a) (h8 : a < n) : m_check_house [.int a, .int n] h = .ok .non h := by
  rw [u_check_house]
  simp [b_check_house, whole, h2, show a ≤ n - 1 by omega]
theorem two (a b n k : Int) (h : EH) : m_is_two [.tup [.int a, .int b], .int n, .int k] h = .ok (.bl ((decide (0 ≤ a) && decide (a ≤ n)) && (decide (0 ≤ b) && decide (b ≤ k)))) h := by
  rw [u_is_two]
  have e1 : fIx (.tup [.int a, .int b]) (.int 0) h = .ok (.int a) h := f_ixT _ 0 rfl rfl
  have e2 : fIx (.tup [.int a, .int b]) (.int 1) h = .ok (.int b) h := f_ixT _ 1 rfl rfl
  by_cases hc : 0 ≤ a ∧ a ≤ n
  · simp [b_is_two, Ty.isa, e1, e2, whole, hc]
  · have : (decide (0 ≤ a) && decide (a ≤ n)) = false := by
      rw [← Bool.not_eq_true]
      simp
      omega
    simp [b_is_two, Ty.isa, e1, e2, whole, this]
theorem pair (a b n : Int) (h : EH) : m_is_pair [.tup [.int a, .int b], .int n] h = .ok (.bl ((decide (0 ≤ a) && decide (a ≤ n - 1)) && (decide (0 ≤ b) && decide (b ≤ n - 1)))) h := by
  rw [u_is_pair]
  simp [b_is_pair, two]
end LW
set_option Elab.async false
set_option linter.all false
set_option maxRecDepth 100000
set_option maxHeartbeats 4000000
namespace LW
open PySem L2 EE
def nbr (ps : List (Nat × Nat)) (j : Nat) : List Nat := ps.flatMap fun p => (if p.1 = j then [p.2] else []) ++ (if p.2 = j then [p.1] else [])
theorem nbr_mem {ps : List (Nat × Nat)} {j k : Nat} : k ∈ nbr ps j ↔ adj ps j k = true := by
  unfold nbr adj
  simp only [List.mem_flatMap, Bool.or_eq_true, decide_eq_true_eq, List.mem_append]
  constructor
  · rintro ⟨⟨a, b⟩, hm, h | h⟩
    · by_cases e : a = j
      · simp [e] at h
        subst h e
        exact .inl hm
      · simp [e] at h
    · by_cases e : b = j
      · simp [e] at h
        subst h e
        exact .inr hm
      · simp [e] at h
  · rintro (h | h)
    · exact ⟨(j, k), h, .inl (by simp)⟩
    · exact ⟨(k, j), h, .inr (by simp)⟩
theorem nbr_snoc (ps : List (Nat × Nat)) (a b j : Nat) : nbr (ps ++ [(a, b)]) j = (nbr ps j ++ (if a = j then [b] else [])) ++ (if b = j then [a] else []) := by
  unfold nbr
  simp
theorem nbr_len (ps : List (Nat × Nat)) (j : Nat) : (nbr ps j).length ≤ 2 * ps.length := by
  induction ps with
  | nil => simp [nbr]
  | cons p ps ih =>
    have e : nbr (p :: ps) j = ((if p.1 = j then [p.2] else []) ++ (if p.2 = j then [p.1] else [])) ++ nbr ps j := by simp [nbr]
    rw [e]
    simp only [List.length_append, List.length_cons]
    have h1 : (if p.1 = j then [p.2] else []).length ≤ 1 := by split <;> simp
    have h2 : (if p.2 = j then [p.1] else []).length ≤ 1 := by split <;> simp
    omega
theorem nats_app (a b : List Nat) : nats a ++ nats b = nats (a ++ b) := by simp [nats]
def Bank (h : EH) (b n : Nat) (f : Nat → List Nat) : Prop := ∀ j, j < n → mutAt h (b + j) = some (nats (f j))
theorem Bank.push {h : EH} {b n : Nat} {f : Nat → List Nat} (B : Bank h b n f) {i c : Nat} (hi : i < n) : Bank (h.set (b + i) (.lst (nats (f i) ++ [.int (c : Int)]))) b n (fun j => f j ++ (if i = j then [c] else [])) := fun j hj => by
  have hl := mutAt_lt (B j hj)
  by_cases e : i = j
  · subst e
    rw [mutAt_set hl]
    simp only [if_pos, ← nats_app]
    rfl
  · rw [mutAt_ne (by omega), B j hj]
    simp [e]
theorem neighbours {h : EH} {t n : Nat} {ps : List (Nat × Nat)} {Q : EV → EH → Prop} (ht : lstAt h t = some (prs ps)) (hp : TiesOk n ps) (hl : ps.length ≤ 100) (h2 : 2 ≤ n) (h8 : n ≤ 8)
    (q : ∀ r h', Rows h' r n (fun i => nats (nbr ps i)) → Fr [] h h' → Q (.ref r) h') : Tri (m__neighbours [.int (n : Int), .ref t] h) Q := by
  rw [u__neighbours]
  simp [b__neighbours, tri_bind, count (n : Int) h (by omega) (by omega), kItL_ref ht]
  refine tri_for (xs := prs ps) (fun i es h' => h' = h ∧ ∃ x, es = [some (.int n), some (.ref t), x, none, none, none, none]) ⟨rfl, none, rfl⟩ (fun i es h' ⟨e, _⟩ => by subst e; exact ht) ?_ ?_
  · rintro i v es h' K hv ⟨rfl, x, rfl⟩ hK _ _ _
    unfold prs at hv
    rw [List.getElem?_map] at hv
    obtain ⟨p, hn, rfl⟩ := Option.map_eq_some_iff.mp hv
    obtain ⟨a, b⟩ := p
    obtain ⟨ha, hb, hab⟩ := hp _ (List.mem_of_getElem? hn)
    simp only at ha hb hab
    have e1 : fIx (.tup [.int (a : Int), .int (b : Int)]) (.int 0) h' = .ok (.int a) h' := f_ixT _ 0 rfl rfl
    have e2 : fIx (.tup [.int (a : Int), .int (b : Int)]) (.int 1) h' = .ok (.int b) h' := f_ixT _ 1 rfl rfl
    simp [tri_bind, pair, e1, e2, show (a : Int) ≤ n - 1 by omega, show (b : Int) ≤ n - 1 by omega, show ¬ (a : Int) = b by omega]
    exact hK _ _ ⟨rfl, _, rfl⟩
  · rintro es h' ⟨rfl, x, rfl⟩
    simp [tri_bind, ap_kItR1 h' (n : Int) (by omega) (by omega)]
    refine tri_lcJ (xs := rng 0 n) (fun i acc h2 => h2 = h' ++ List.replicate i (.lst []) ∧ acc = (List.range i).map (fun j => EV.ref (h'.length + j)) ∧ i ≤ n) ⟨by simp, by simp, Nat.zero_le _⟩ (fun _ _ _ _ => rfl) (fun i acc h2 q2 => by obtain ⟨_, rfl, hn⟩ := q2; simp; omega)
      (fun i x acc h2 K hx q2 _ hK => ?_) fun acc h2 q2 => ?_
    · obtain ⟨rfl, rfl, hn⟩ := q2
      obtain ⟨hi, rfl⟩ := rng_at hx
      simp
      refine hK _ fun Ke hKe => ?_
      simp
      refine hKe _ _ ⟨?_, ?_, by omega⟩
      · rw [List.replicate_succ']
      · rw [List.range_succ, List.map_append]
        rfl
    · obtain ⟨rfl, rfl, hn⟩ := q2
      rw [rng_len]
      generalize eh2 : h' ++ List.replicate n (EO.lst []) = h2
      have l2 : h2.length = h'.length + n := by rw [← eh2]; simp
      have f2 : Fr [] h' h2 := by rw [← eh2]; exact Fr.app _ _ _
      have B0 : Bank (h2 ++ [.lst ((List.range n).map fun j => EV.ref (h'.length + j))]) h'.length n (nbr []) := fun j hj => by
        refine mutAt_app ?_
        rw [← eh2]
        unfold mutAt
        rw [List.getElem?_append_right (by omega), Nat.add_sub_cancel_left, List.getElem?_replicate, if_pos hj]
        rfl
      have e0 : lstAt (h2 ++ [.lst ((List.range n).map fun j => EV.ref (h'.length + j))]) h2.length = some ((List.range n).map fun j => EV.ref (h'.length + j)) := lstAt_new
      have f3 : Fr [] h' (h2 ++ [.lst ((List.range n).map fun j => EV.ref (h'.length + j))]) := f2.trans (Fr.app _ _ _)
      generalize h2 ++ [.lst ((List.range n).map fun j => EV.ref (h'.length + j))] = h3 at *
      simp [tri_bind, kItL_ref (f3.lst ht (by simp))]
      refine tri_for (xs := prs ps) (fun i es h4 => ∃ x y z, es = [some (.int n), some (.ref t), x, some (.ref h2.length), y, z, none] ∧ Fr [] h' h4 ∧ Bank h4 h'.length n (nbr (ps.take i)) ∧ lstAt h4 h2.length = some ((List.range n).map fun j => EV.ref (h'.length + j)))
        ⟨x, none, none, rfl, f3, by simpa using B0, e0⟩ (fun i es h4 ⟨_, _, _, _, f, _⟩ => f.lst ht (by simp)) ?_ ?_
      · rintro i v es h4 K hv ⟨x, y, z, rfl, f4, B4, e4⟩ hK _ _ _
        unfold prs at hv
        rw [List.getElem?_map] at hv
        obtain ⟨p, hpi, rfl⟩ := Option.map_eq_some_iff.mp hv
        obtain ⟨a, b⟩ := p
        obtain ⟨ha, hb, hab⟩ := hp _ (List.mem_of_getElem? hpi)
        simp only at ha hb hab
        have ia : fIx (.ref h2.length) (.int (a : Int)) h4 = .ok (.ref (h'.length + a)) h4 := f_ixL _ e4 a rfl (by simp [ha])
        have hil := (List.getElem?_eq_some_iff.mp hpi).1
        have len1 := nbr_len (ps.take i) a
        have len2 := nbr_len (ps.take i) b
        simp only [List.length_take] at len1 len2
        have l1 : (nats (nbr (ps.take i) a)).length < 100000 := by simp [nats]; omega
        have B5 := B4.push (c := b) ha
        have e5 : lstAt (h4.set (h'.length + a) (.lst (nats (nbr (ps.take i) a) ++ [.int (b : Int)]))) h2.length = some ((List.range n).map fun j => EV.ref (h'.length + j)) := by
          rw [lstAt_ne (by omega)]
          exact e4
        have f5 : Fr [] h' (h4.set (h'.length + a) (.lst (nats (nbr (ps.take i) a) ++ [.int (b : Int)]))) := f4.set (.inr (by omega))
        simp [tri_bind, ia, kBM_ref _ _ _ (lst_mut (B4 a ha)), m_append (B4 a ha) l1]
        generalize h4.set (h'.length + a) (.lst (nats (nbr (ps.take i) a) ++ [.int (b : Int)])) = h5 at *
        have ib : fIx (.ref h2.length) (.int (b : Int)) h5 = .ok (.ref (h'.length + b)) h5 := f_ixL _ e5 b rfl (by simp [hb])
        have l3 : (nats (nbr (ps.take i) b ++ if a = b then [b] else [])).length < 100000 := by
          rw [if_neg hab]
          simp [nats]
          omega
        have B6 := B5.push (c := a) hb
        simp [ib, kBM_ref _ _ _ (lst_mut (B5 b hb)), m_append (B5 b hb) l3]
        refine hK _ _ ⟨_, _, _, rfl, f5.set (.inr (by omega)), ?_, ?_⟩
        · rw [List.take_add_one, hpi]
          have : nbr (ps.take i ++ [(a, b)]) = fun j => (nbr (ps.take i) j ++ (if a = j then [b] else [])) ++ (if b = j then [a] else []) := by
            funext j
            exact nbr_snoc _ a b j
          show Bank _ _ _ (nbr (ps.take i ++ [(a, b)]))
          rw [this]
          exact B6
        · rw [lstAt_ne (by omega)]
          exact e5
      · rintro es h4 ⟨x, y, z, rfl, f4, B4, e4⟩
        simp
        refine q _ _ ⟨(List.range n).map fun j => h'.length + j, ?_, by simp, fun i k hk => ?_⟩ f4
        · rw [e4, List.map_map]
          rfl
        · rw [List.getElem?_map] at hk
          obtain ⟨j, hj, rfl⟩ := Option.map_eq_some_iff.mp hk
          obtain ⟨h5, h6⟩ := List.getElem?_eq_some_iff.mp hj
          simp at h5 h6
          subst h6
          have := B4 i h5
          rw [List.take_of_length_le (by simp [prs])] at this
          exact lst_mut this
end LW
set_option Elab.async false
set_option linter.all false
set_option maxRecDepth 100000
set_option maxHeartbeats 4000000
namespace LW
open PySem L2 EE
abbrev naD (xs : List Nat) : List PyData := xs.map fun (i : Nat) => PyData.int (i : Int)
theorem dat0s_nats (f : Nat → Option (List PyData)) : ∀ xs : List Nat, dat0s f (nats xs) = some (naD xs)
  | [] => by simp [nats, dat0s]
  | p :: ps => by
    have := dat0s_nats f ps
    simp only [nats] at this ⊢
    simp [dat0s, dat0, this]
theorem datF_nats {h : EH} {t : Nat} {xs : List Nat} (e : lstAt h t = some (nats xs)) (m : Nat) : datF h (m + 1) t = some (naD xs) := by
  simp only [datF, e]
  exact dat0s_nats _ xs
theorem canLay_nats : ∀ xs : List Nat, PyData.canLayAll0 (naD xs) = true
  | [] => by simp [PyData.canLayAll0]
  | p :: ps => by
    have := canLay_nats ps
    simp [PyData.canLayAll0, PyData.canLay0, this]
theorem depth_nats : ∀ xs : List Nat, PyData.depthAll (naD xs) = 0
  | [] => by simp [PyData.depthAll]
  | p :: ps => by
    have := depth_nats ps
    simp only [List.map_cons, PyData.depthAll, PyData.depth, this]
    rfl
theorem shaped_nats (xs : List Nat) : SeqAt.shaped (.list (naD xs)) = true := by
  unfold SeqAt.shaped
  simp [PyData.canLay0, canLay_nats, PyData.depth, depth_nats]
theorem shaped_int (a : Int) : SeqAt.shaped (.int a) = true := by
  simp [SeqAt.shaped, PyData.canLay0, PyData.depth]
theorem f_inNat {h : EH} {t : Nat} {xs : List Nat} (e : lstAt h t = some (nats xs)) (a : Nat) : fIn (.int (a : Int)) (.ref t) h = .ok (.bl (decide (a ∈ xs))) h := by
  show fInL false _ _ _ = _
  have ed : dat h (.int (a : Int)) = some (.int a) := by simp [dat, dat0]
  simp only [fInL, ed, datF_nats e 3, shaped_int, shaped_nats, Bool.and_self, if_true]
  congr 2
  rw [Bool.eq_iff_iff]
  simp only [Bool.false_bne, List.any_map, List.any_eq_true, Function.comp_apply, decide_eq_true_eq, PyData.eqv]
  constructor
  · rintro ⟨b, hm, he⟩
    have e1 := eq_of_beq he
    have : b = a := by omega
    rw [← this]
    exact hm
  · intro hm
    exact ⟨a, hm, by simp⟩
theorem f_notInNat {h : EH} {t : Nat} {xs : List Nat} (e : lstAt h t = some (nats xs)) (a : Nat) : fNotIn (.int (a : Int)) (.ref t) h = .ok (.bl (decide (a ∉ xs))) h := by
  have h1 := f_inNat e a
  show fInL true _ _ _ = _
  have h1 : fInL false (.int (a : Int)) (.ref t) h = .ok (.bl (decide (a ∈ xs))) h := h1
  have ed : dat h (.int (a : Int)) = some (.int a) := by simp [dat, dat0]
  simp only [fInL, ed, datF_nats e 3, shaped_int, shaped_nats, Bool.and_self, if_true] at h1 ⊢
  injection h1 with h1 _
  injection h1 with h1
  simp only [Bool.false_bne] at h1
  rw [h1]
  simp
theorem dat_lst {h : EH} {n : Nat} {xs : List EV} {ds : List PyData} (e : lstAt h n = some xs) (hd : dat0s (datF h 3) xs = some ds) : dat h (.ref n) = some (.list ds) := by
  have h4 : datF h 4 n = some ds := by
    rw [show datF h 4 n = (match lstAt h n with | some xs => dat0s (datF h 3) xs | none => none) from rfl, e]
    exact hd
  unfold dat
  simp only [dat0, h4, Option.map_some]
theorem f_neNil {h : EH} {a b : Nat} {xs : List Nat} (ha : lstAt h a = some (nats xs)) (hb : lstAt h b = some []) : fNe (.ref a) (.ref b) h = .ok (.bl (!xs.isEmpty)) h := by
  show (Res.no).orElse _ = _
  have e1 := dat_lst ha (dat0s_nats _ xs)
  have e2 := dat_lst hb (show dat0s (datF h 3) [] = some [] by simp [dat0s])
  simp only [orE_no, fEqD, e1, e2, shaped_nats, Bool.true_and]
  rw [if_pos (by rfl)]
  cases xs with
  | nil => simp [PyData.eqv, PyData.eqvAll]
  | cons x xs => simp [PyData.eqv, PyData.eqvAll]
theorem eqv_prs : ∀ ps : List (Nat × Nat), PyData.eqvAll (ps.map prD) (ps.map prD) = true
  | [] => by simp [PyData.eqvAll]
  | p :: ps => by
    have := eqv_prs ps
    simp [PyData.eqvAll, PyData.eqv, this]
theorem f_nePrs {h : EH} {a b : Nat} {ps : List (Nat × Nat)} (ha : lstAt h a = some (prs ps)) (hb : lstAt h b = some (prs ps)) : fNe (.ref a) (.ref b) h = .ok (.bl false) h := by
  show (Res.no).orElse _ = _
  have e1 := dat_lst ha (dat0s_prs _ ps)
  have e2 := dat_lst hb (dat0s_prs _ ps)
  simp only [orE_no, fEqD, e1, e2, shaped_prs, Bool.and_self, if_true]
  simp [PyData.eqv, eqv_prs]
theorem gvn_filter (p : Nat → Bool) (xs : List Nat) : gvn xs.length (fun i => p (xs.getD i 0)) (fun i => .int ((xs.getD i 0 : Nat) : Int)) = nats (xs.filter p) := by
  have key : ∀ m, m ≤ xs.length → gvn m (fun i => p (xs.getD i 0)) (fun i => .int ((xs.getD i 0 : Nat) : Int)) = nats ((xs.take m).filter p) := by
    intro m
    induction m with
    | zero => intro _; simp [gvn, nats]
    | succ m ih =>
      intro hm
      have hlt : m < xs.length := by omega
      have ed : xs.getD m 0 = xs[m] := by simp [List.getD, hlt]
      rw [List.take_add_one, List.getElem?_eq_getElem hlt]
      simp only [Option.toList, List.filter_append]
      cases hp : p xs[m] with
      | true =>
        rw [gvn_yes (by rw [ed]; exact hp), ih (by omega), ed]
        simp [nats, hp]
      | false =>
        rw [gvn_no (by rw [ed]; exact hp), ih (by omega)]
        simp [nats, hp]
  rw [key _ (Nat.le_refl _), List.take_length]
theorem lc_nats {it : Wlk} {j : Nat} {t : DT} {vs : List Nat} {xs : List Nat} {es : ES} {h : EH} {Q : EV → EH → Prop} (p : Nat → Bool) (hl : xs.length < 50000) (hcur : ∀ h', Fr [] h h' → it.cur h' = some (nats xs)) (htl : ∀ i x, it.tl i x = x) (hj : j < es.length) (hvs : vs = [j])
    (ht : ∀ (x : Nat) h' (K : Bool → EH → Prop), x ∈ xs → Fr [] h h' → (∀ h2, Fr [] h' h2 → K (p x) h2) → Tri (t (es.set j (some (.int (x : Int)))) h') K)
    (hend : ∀ h', Fr [] h h' → Q (.ref h'.length) (h' ++ [.lst (nats (xs.filter p))])) : Tri (kLc (dName j) t (dVar j) vs es it h) Q := by
  subst hvs
  have eset : ∀ v : EV, (wip es [j]).set j (some v) = es.set j (some v) := fun v => by
    show ((es.set j none).set j (some v)) = _
    rw [List.set_set]
  refine tri_lcP (xs := nats xs) (fun i => p (xs.getD i 0)) (fun i => .int ((xs.getD i 0 : Nat) : Int)) (by simpa [nats] using hl) hcur (fun i v h' K hv hf hK => ?_) (fun i v h' K hv hf _ hK => ?_) fun h' hf => ?_
  · unfold nats at hv
    rw [List.getElem?_map] at hv
    obtain ⟨x, hx, rfl⟩ := Option.map_eq_some_iff.mp hv
    have ed : xs.getD i 0 = x := by simp [List.getD, hx]
    rw [htl, eset]
    rw [ed] at hK
    exact ht x h' K (List.mem_of_getElem? hx) hf hK
  · unfold nats at hv
    rw [List.getElem?_map] at hv
    obtain ⟨x, hx, rfl⟩ := Option.map_eq_some_iff.mp hv
    have ed : xs.getD i 0 = x := by simp [List.getD, hx]
    rw [htl, eset]
    rw [ed] at hK
    simp [List.getElem?_set_self hj]
    exact hK _ (Fr.refl _ _)
  · have : (nats xs).length = xs.length := by simp [nats]
    rw [this, gvn_filter]
    exact hend h' hf
theorem St.no {ns : List Int} {h : EH} {s k : Nat} (hs : St ns h s) {xs : List Nat} (e : lstAt h k = some (nats xs)) : k ≠ s := by
  rintro rfl
  obtain ⟨o, h1, ⟨b, x, l, rfl, _⟩, _⟩ := hs
  unfold lstAt at e
  rw [h1] at e
  cases xs with
  | nil => simp [nats] at e
  | cons y ys => simp [nats] at e
theorem St.noR {ns : List Int} {h : EH} {s k : Nat} (hs : St ns h s) {xs : List Nat} (e : lstAt h k = some (xs.map EV.ref)) : k ≠ s := by
  rintro rfl
  obtain ⟨o, h1, ⟨b, x, l, rfl, _⟩, _⟩ := hs
  unfold lstAt at e
  rw [h1] at e
  cases xs with
  | nil => simp at e
  | cons y ys =>
    cases ys with
    | nil => simp at e
    | cons z zs => simp at e
theorem Rows.frS {ns : List Int} {h h' : EH} {s r n : Nat} {g : Nat → List Nat} (hs : St ns h s) (e : Rows h r n fun i => nats (g i)) (f : Fr [s] h h') : Rows h' r n fun i => nats (g i) := by
  obtain ⟨rs, h1, h2, h3⟩ := e
  exact ⟨rs, f.lst h1 (by simp [hs.noR h1]), h2, fun i k hk => f.lst (h3 i k hk) (by simp [hs.no (h3 i k hk)])⟩
end LW
set_option Elab.async false
set_option linter.all false
set_option maxRecDepth 100000
set_option maxHeartbeats 4000000
namespace K02
open PySem PySem.Spec PyProof.Rows L2 EE
def topS (i : Nat) : Stmt := PySem.Challenge.pw_newsflood_k02_a_house_alone.main.body.getD i (.Pass ⟨0, 0, 0, 0⟩)
abbrev s__law_start : Stmt := topS 22
theorem sc__law_start : FnScope ["_law_script", "_law_mixed", "_law_cell"] ["_law_script"] (defScope s__law_start) := ⟨rfl, rfl, rfl, by decide +kernel, rfl, by decide +kernel, by decide +kernel⟩
abbrev s__law_drawn : Stmt := topS 23
theorem sc__law_drawn : FnScope ["_law_state", "_law_many", "_law_found", "_law_cell"] ["_law_state", "_law_many"] (defScope s__law_drawn) := ⟨rfl, rfl, rfl, by decide +kernel, rfl, by decide +kernel, by decide +kernel⟩
abbrev s_is_whole : Stmt := topS 13
theorem sc_is_whole : FnScope ["value", "low", "high"] ["value", "low", "high"] (defScope s_is_whole) := ⟨rfl, rfl, rfl, by decide +kernel, rfl, by decide +kernel, by decide +kernel⟩
abbrev s_check_count : Stmt := topS 15
theorem sc_check_count : FnScope ["many"] ["many"] (defScope s_check_count) := ⟨rfl, rfl, rfl, by decide +kernel, rfl, by decide +kernel, by decide +kernel⟩
abbrev s_check_house : Stmt := topS 16
theorem sc_check_house : FnScope ["house", "many"] ["house", "many"] (defScope s_check_house) := ⟨rfl, rfl, rfl, by decide +kernel, rfl, by decide +kernel, by decide +kernel⟩
abbrev s_House___init__ : Stmt := inClass (topS 20) 0
theorem sc_House___init__ : FnScope ["self", "number", "many", "house"] ["self", "number", "many"] (defScope s_House___init__) := ⟨rfl, rfl, rfl, by decide +kernel, rfl, by decide +kernel, by decide +kernel⟩
def b_House___init__ : DS :=
  (dSeq (dDrop (dCall LW.m_check_count (dCons (dVar 2) dNil)))
  (dSeq (dDrop (dCall LW.m_check_house (dCons (dVar 1) (dCons (dVar 2) dNil))))
  (dSeq (dSetF 0 0 (dVar 0) (dVar 1))
  (dSeq (dSetF 0 1 (dVar 0) (dVar 2))
  (dSeq (dSetF 0 2 (dVar 0) (dC (.int 0)))
  (dSeq (dSetF 0 3 (dVar 0) (dC (.int 0)))
  (dSeq (dSetF 0 4 (dVar 0) (dC (.int 0)))
  (dSeq (dSetF 0 5 (dVar 0) (dNewD false))
  (dSeq (dSetF 0 6 (dVar 0) (dNewD true))
  (dSeq (dSetF 0 7 (dVar 0) (dNewD true))
  (dSeq (dSetF 0 8 (dVar 0) (dNewD true))
  (dSeq (dSetF 0 9 (dVar 0) (dLc (dItR1 (dCons (dVar 2) dNil)) (dName 3) dYes (dNewD true) [3]))
  (dSetF 0 10 (dVar 0) (dLc (dItR1 (dCons (dVar 2) dNil)) (dName 3) dYes (dNewD true) [3]))))))))))))))
def m_House___init__ : DL := dDef 3 4 b_House___init__
theorem u_House___init__ (a0 : EV) (a1 : EV) (a2 : EV) (h : EH) : m_House___init__ [a0, a1, a2] h = (b_House___init__ [some a0, some a1, some a2, none] h).bind kDef := rfl
abbrev s_House_notes : Stmt := inClass (topS 20) 7
theorem sc_House_notes : FnScope ["self", "mark"] ["self"] (defScope s_House_notes) := ⟨rfl, rfl, rfl, by decide +kernel, rfl, by decide +kernel, by decide +kernel⟩
def b_House_notes : DS :=
  (dRet (dLc (dItL (dCB fSorted (dCons (dFld 0 7 (dVar 0)) dNil))) (dName 1) dYes (dTup (dCons (dVar 1) (dCons (dOp fIx (dOp fDGet (dFld 0 7 (dVar 0)) (dVar 1)) (dC (.int 0))) dNil))) [1]))
def m_House_notes : DL := dDef 1 2 b_House_notes
theorem u_House_notes (a0 : EV) (h : EH) : m_House_notes [a0] h = (b_House_notes [some a0, none] h).bind kDef := rfl
abbrev s_House_came : Stmt := inClass (topS 20) 8
theorem sc_House_came : FnScope ["self"] ["self"] (defScope s_House_came) := ⟨rfl, rfl, rfl, by decide +kernel, rfl, by decide +kernel, by decide +kernel⟩
def b_House_came : DS :=
  (dRet (dCB fKeysT (dCons (dFld 0 6 (dVar 0)) dNil)))
def m_House_came : DL := dDef 1 1 b_House_came
theorem u_House_came (a0 : EV) (h : EH) : m_House_came [a0] h = (b_House_came [some a0] h).bind kDef := rfl
abbrev s_House__unsettled : Stmt := inClass (topS 20) 15
theorem sc_House__unsettled : FnScope ["self", "other", "settled", "mark"] ["self", "other"] (defScope s_House__unsettled) := ⟨rfl, rfl, rfl, by decide +kernel, rfl, by decide +kernel, by decide +kernel⟩
def b_House__unsettled : DS :=
  (dSeq (dAsg (dOp fIx (dFld 0 9 (dVar 0)) (dVar 1)) (dName 2))
  (dRet (dCB fTupL (dCons (dLockE (dFld 0 7 (dVar 0)) (dLc (dItK (dFld 0 7 (dVar 0))) (dName 3) (dB (dOp (fDIn true) (dVar 3) (dVar 2))) (dTup (dCons (dVar 3) (dCons (dOp fIx (dOp fDGet (dFld 0 7 (dVar 0)) (dVar 3)) (dC (.int 1))) dNil))) [3])) dNil))))
def m_House__unsettled : DL := dDef 2 4 b_House__unsettled
theorem u_House__unsettled (a0 : EV) (a1 : EV) (h : EH) : m_House__unsettled [a0, a1] h = (b_House__unsettled [some a0, some a1, none, none] h).bind kDef := rfl
abbrev s_House__untold_backs : Stmt := inClass (topS 20) 16
theorem sc_House__untold_backs : FnScope ["self", "other", "aware", "mark"] ["self", "other"] (defScope s_House__untold_backs) := ⟨rfl, rfl, rfl, by decide +kernel, rfl, by decide +kernel, by decide +kernel⟩
def b_House__untold_backs : DS :=
  (dSeq (dAsg (dOp fIx (dFld 0 10 (dVar 0)) (dVar 1)) (dName 2))
  (dRet (dCB fTupL (dCons (dLockE (dFld 0 8 (dVar 0)) (dLc (dItK (dFld 0 8 (dVar 0))) (dName 3) (dB (dOp (fDIn true) (dVar 3) (dVar 2))) (dVar 3) [3])) dNil))))
def m_House__untold_backs : DL := dDef 2 4 b_House__untold_backs
theorem u_House__untold_backs (a0 : EV) (a1 : EV) (h : EH) : m_House__untold_backs [a0, a1] h = (b_House__untold_backs [some a0, some a1, none, none] h).bind kDef := rfl
abbrev s_House_letters : Stmt := inClass (topS 20) 10
theorem sc_House_letters : FnScope ["self", "told", "other", "ends", "backs"] ["self"] (defScope s_House_letters) := ⟨rfl, rfl, rfl, by decide +kernel, rfl, by decide +kernel, by decide +kernel⟩
def b_House_letters : DS :=
  (dSeq (dAsg (dLst dNil) (dName 1))
  (dSeq (dFor (dItL (dCB fSorted (dCons (dFld 0 5 (dVar 0)) dNil))) (dName 2)
  (dSeq (dAsg (dMeth 0 m_House__unsettled (dVar 0) (dCons (dVar 2) dNil)) (dName 3))
  (dSeq (dAsg (dMeth 0 m_House__untold_backs (dVar 0) (dCons (dVar 2) dNil)) (dName 4))
  (dIfS (dOr (dTru (dVar 3)) (dTru (dVar 4))) (dDrop (dBM mApp (dVar 1) (dCons (dTup (dCons (dVar 2) (dCons (dTup (dCons (dC (.str "news")) (dCons (dFld 0 0 (dVar 0)) (dCons (dVar 3) (dCons (dVar 4) dNil))))) dNil))) dNil)))
  dNext))))
  (dRet (dVar 1))))
def m_House_letters : DL := dDef 1 5 b_House_letters
theorem u_House_letters (a0 : EV) (h : EH) : m_House_letters [a0] h = (b_House_letters [some a0, none, none, none, none] h).bind kDef := rfl
abbrev s_House_day : Stmt := inClass (topS 20) 3
theorem sc_House_day : FnScope ["self", "number", "mark", "kept"] ["self", "number"] (defScope s_House_day) := ⟨rfl, rfl, rfl, by decide +kernel, rfl, by decide +kernel, by decide +kernel⟩
def b_House_day : DS :=
  (dSeq (dIfS (dNot (dB (dCall LW.m_is_whole (dCons (dVar 1) (dCons (dOp fAdd (dFld 0 2 (dVar 0)) (dC (.int 1))) (dCons (dC (.int 10000)) dNil)))))) dNever
  dNext)
  (dSeq (dSetF 0 2 (dVar 0) (dVar 1))
  (dSetF 0 7 (dVar 0) (dLockE (dFld 0 7 (dVar 0)) (dDc true (dItIT (dFld 0 7 (dVar 0))) (dGTup 2 (dGCons (dName 2) (dGCons (dName 3) dGNil))) (dB (dOp fGt (dOp fIx (dVar 3) (dC (.int 1))) (dVar 1))) (dVar 2) (dVar 3) [2, 3])))))
def m_House_day : DL := dDef 2 4 b_House_day
theorem u_House_day (a0 : EV) (a1 : EV) (h : EH) : m_House_day [a0, a1] h = (b_House_day [some a0, some a1, none, none] h).bind kDef := rfl
abbrev s__law_same : Stmt := topS 24
theorem sc__law_same : FnScope ["_law_found", "_law_due", "_law_k"] ["_law_found", "_law_due"] (defScope s__law_same) := ⟨rfl, rfl, rfl, by decide +kernel, rfl, by decide +kernel, by decide +kernel⟩
abbrev s_House_copies : Stmt := inClass (topS 20) 9
theorem sc_House_copies : FnScope ["self"] ["self"] (defScope s_House_copies) := ⟨rfl, rfl, rfl, by decide +kernel, rfl, by decide +kernel, by decide +kernel⟩
def b_House_copies : DS :=
  (dRet (dFld 0 4 (dVar 0)))
def m_House_copies : DL := dDef 1 1 b_House_copies
theorem u_House_copies (a0 : EV) (h : EH) : m_House_copies [a0] h = (b_House_copies [some a0] h).bind kDef := rfl
abbrev s_House__take : Stmt := inClass (topS 20) 17
theorem sc_House__take : FnScope ["self", "mark", "worth", "end"] ["self", "mark", "worth", "end"] (defScope s_House__take) := ⟨rfl, rfl, rfl, by decide +kernel, rfl, by decide +kernel, by decide +kernel⟩
def b_House__take : DS :=
  (dSeq (dAsg (dC (.bl true)) (dGSub (dFld 0 6 (dVar 0)) (dVar 1) sDic))
  (dAsg (dTup (dCons (dVar 2) (dCons (dVar 3) dNil))) (dGSub (dFld 0 7 (dVar 0)) (dVar 1) sDic)))
def m_House__take : DL := dDef 4 4 b_House__take
theorem u_House__take (a0 : EV) (a1 : EV) (a2 : EV) (a3 : EV) (h : EH) : m_House__take [a0, a1, a2, a3] h = (b_House__take [some a0, some a1, some a2, some a3] h).bind kDef := rfl
abbrev s_House_write : Stmt := inClass (topS 20) 5
theorem sc_House_write : FnScope ["self", "worth", "life", "mark"] ["self", "worth", "life"] (defScope s_House_write) := ⟨rfl, rfl, rfl, by decide +kernel, rfl, by decide +kernel, by decide +kernel⟩
def b_House_write : DS :=
  (dSeq (dIfS (dNot (dB (dCall LW.m_is_whole (dCons (dVar 1) (dCons (dC (.int 0)) (dCons (dC (.int 999)) dNil)))))) dNever
  dNext)
  (dSeq (dIfS (dNot (dB (dCall LW.m_is_whole (dCons (dVar 2) (dCons (dC (.int 1)) (dCons (dC (.int 30)) dNil)))))) dNever
  dNext)
  (dSeq (dAsg (dTup (dCons (dFld 0 0 (dVar 0)) (dCons (dFld 0 3 (dVar 0)) dNil))) (dName 3))
  (dSeq (dAugF 0 3 fAddI (dVar 0) (dC (.int 1)))
  (dSeq (dDrop (dMeth 0 m_House__take (dVar 0) (dCons (dVar 3) (dCons (dVar 1) (dCons (dOp fAdd (dFld 0 2 (dVar 0)) (dVar 2)) dNil)))))
  (dRet (dVar 3)))))))
def m_House_write : DL := dDef 3 4 b_House_write
theorem u_House_write (a0 : EV) (a1 : EV) (a2 : EV) (h : EH) : m_House_write [a0, a1, a2] h = (b_House_write [some a0, some a1, some a2, none] h).bind kDef := rfl
abbrev s_is_two : Stmt := topS 14
theorem sc_is_two : FnScope ["value", "first", "second"] ["value", "first", "second"] (defScope s_is_two) := ⟨rfl, rfl, rfl, by decide +kernel, rfl, by decide +kernel, by decide +kernel⟩
abbrev s_House__is_own : Stmt := inClass (topS 20) 20
theorem sc_House__is_own : FnScope ["self", "mark"] ["self", "mark"] (defScope s_House__is_own) := ⟨rfl, rfl, rfl, by decide +kernel, rfl, by decide +kernel, by decide +kernel⟩
def b_House__is_own : DS :=
  (dRet (dAndV (dCall LW.m_is_two (dCons (dVar 1) (dCons (dFld 0 0 (dVar 0)) (dCons (dOp fSub (dFld 0 3 (dVar 0)) (dC (.int 1))) dNil)))) (dOp fEq (dOp fIx (dVar 1) (dC (.int 0))) (dFld 0 0 (dVar 0)))))
def m_House__is_own : DL := dDef 2 2 b_House__is_own
theorem u_House__is_own (a0 : EV) (a1 : EV) (h : EH) : m_House__is_own [a0, a1] h = (b_House__is_own [some a0, some a1] h).bind kDef := rfl
abbrev s_House__drop : Stmt := inClass (topS 20) 18
theorem sc_House__drop : FnScope ["self", "mark"] ["self", "mark"] (defScope s_House__drop) := ⟨rfl, rfl, rfl, by decide +kernel, rfl, by decide +kernel, by decide +kernel⟩
def b_House__drop : DS :=
  (dSeq (dAsg (dC (.bl true)) (dGSub (dFld 0 8 (dVar 0)) (dVar 1) sDic))
  (dDrop (dBMD mPopT (dFld 0 7 (dVar 0)) (dCons (dVar 1) (dCons (dC .non) dNil)))))
def m_House__drop : DL := dDef 2 2 b_House__drop
theorem u_House__drop (a0 : EV) (a1 : EV) (h : EH) : m_House__drop [a0, a1] h = (b_House__drop [some a0, some a1] h).bind kDef := rfl
abbrev s_House_call_back : Stmt := inClass (topS 20) 6
theorem sc_House_call_back : FnScope ["self", "mark"] ["self", "mark"] (defScope s_House_call_back) := ⟨rfl, rfl, rfl, by decide +kernel, rfl, by decide +kernel, by decide +kernel⟩
def b_House_call_back : DS :=
  (dSeq (dIfS (dNot (dB (dMeth 0 m_House__is_own (dVar 0) (dCons (dVar 1) dNil)))) dNever
  dNext)
  (dIfS (dB (dOp (fDIn false) (dVar 1) (dFld 0 7 (dVar 0)))) (dDrop (dMeth 0 m_House__drop (dVar 0) (dCons (dVar 1) dNil)))
  dNext))
def m_House_call_back : DL := dDef 2 2 b_House_call_back
theorem u_House_call_back (a0 : EV) (a1 : EV) (h : EH) : m_House_call_back [a0, a1] h = (b_House_call_back [some a0, some a1] h).bind kDef := rfl
abbrev s_law : Stmt := topS 25
theorem sc_law : FnScope ["_law_script", "_law_state", "_law_many", "_law_me", "_law_house", "_law_day", "_law_notes", "_law_came", "_law_turn", "_law_way", "_law_worth", "_law_life", "_law_mark", "_law_found", "_law_part"] ["_law_script"] (defScope s_law) := ⟨rfl, rfl, rfl, by decide +kernel, rfl, by decide +kernel, by decide +kernel⟩
def b_law : DS :=
  (dSeq (dAsg (dCall LW.m__law_start (dCons (dVar 0) dNil)) (dName 1))
  (dSeq (dAsg (dOp fAdd (dC (.int 2)) (dCall LW.m__law_drawn (dCons (dVar 1) (dCons (dC (.int 7)) dNil)))) (dName 2))
  (dSeq (dAsg (dCall LW.m__law_drawn (dCons (dVar 1) (dCons (dVar 2) dNil))) (dName 3))
  (dSeq (dAsg (dTup (dCons (dMake 0 11 m_House___init__ (dCons (dVar 3) (dCons (dVar 2) dNil))) (dCons (dC (.int 0)) (dCons (dNewD true) (dCons (dLst dNil) dNil))))) (dGTup 4 (dGCons (dName 4) (dGCons (dName 5) (dGCons (dName 6) (dGCons (dName 7) dGNil))))))
  (dSeq (dFor (dItR1 (dCons (dCall LW.m__law_drawn (dCons (dVar 1) (dCons (dC (.int 51)) dNil))) dNil)) (dName 8)
  (dSeq (dAsg (dCall LW.m__law_drawn (dCons (dVar 1) (dCons (dC (.int 6)) dNil))) (dName 9))
  (dSeq (dIfS (dOr (dB (dOp fLt (dVar 9) (dC (.int 3)))) (dB (dOp fEq (dVar 7) (dLst dNil)))) (dSeq (dPar 10 11 (dCons (dCall LW.m__law_drawn (dCons (dVar 1) (dCons (dC (.int 1000)) dNil))) (dCons (dOp fAdd (dC (.int 1)) (dCall LW.m__law_drawn (dCons (dVar 1) (dCons (dOp fIx (dLst (dCons (dC (.int 3)) (dCons (dC (.int 30)) dNil))) (dCall LW.m__law_drawn (dCons (dVar 1) (dCons (dC (.int 2)) dNil)))) dNil)))) dNil)))
  (dSeq (dIfS (dNot (dB (dCall (LW.m__law_same 6) (dCons (dMeth 0 m_House_write (dVar 4) (dCons (dVar 10) (dCons (dVar 11) dNil))) (dCons (dTup (dCons (dVar 3) (dCons (dCB fLen (dCons (dVar 7) dNil)) dNil))) dNil))))) (dRet (dC (.bl false)))
  dNext)
  (dSeq (dAsg (dTup (dCons (dVar 10) (dCons (dOp fAdd (dVar 5) (dVar 11)) dNil))) (dGSub (dVar 6) (dTup (dCons (dVar 3) (dCons (dCB fLen (dCons (dVar 7) dNil)) dNil))) sDic))
  (dDrop (dBM mApp (dVar 7) (dCons (dTup (dCons (dVar 3) (dCons (dCB fLen (dCons (dVar 7) dNil)) dNil))) dNil))))))
  (dIfS (dB (dOp fEq (dVar 9) (dC (.int 3)))) (dSeq (dAsg (dOp fIx (dVar 7) (dCall LW.m__law_drawn (dCons (dVar 1) (dCons (dCB fLen (dCons (dVar 7) dNil)) dNil)))) (dName 12))
  (dSeq (dDrop (dBMD mPopT (dVar 6) (dCons (dVar 12) (dCons (dC .non) dNil))))
  (dIfS (dB (dOp (fIsN true) (dMeth 0 m_House_call_back (dVar 4) (dCons (dVar 12) dNil)) (dC .non))) (dRet (dC (.bl false)))
  dNext)))
  (dSeq (dAsg (dOp fAdd (dOp fAdd (dVar 5) (dC (.int 1))) (dCall LW.m__law_drawn (dCons (dVar 1) (dCons (dOp fIx (dLst (dCons (dC (.int 1)) (dCons (dC (.int 5)) (dCons (dC (.int 40)) dNil)))) (dCall LW.m__law_drawn (dCons (dVar 1) (dCons (dC (.int 3)) dNil)))) dNil)))) (dName 5))
  (dSeq (dDrop (dMeth 0 m_House_day (dVar 4) (dCons (dVar 5) dNil)))
  (dAsg (dCB fDictT (dCons (dLockE (dVar 6) (dLc (dItK (dVar 6)) (dName 12) (dB (dOp fGt (dOp fIx (dOp fDGet (dVar 6) (dVar 12)) (dC (.int 1))) (dVar 5))) (dTup (dCons (dVar 12) (dCons (dOp fDGet (dVar 6) (dVar 12)) dNil))) [12])) dNil)) (dName 6))))))
  (dSeq (dAsg (dLst (dCons (dMeth 0 m_House_notes (dVar 4) dNil) (dCons (dMeth 0 m_House_came (dVar 4) dNil) (dCons (dMeth 0 m_House_letters (dVar 4) dNil) dNil)))) (dName 13))
  (dSeq (dIfS (dNot (dB (dCall (LW.m__law_same 6) (dCons (dVar 13) (dCons (dLst (dCons (dLc (dItL (dCB fSorted (dCons (dVar 6) dNil))) (dName 12) dYes (dTup (dCons (dVar 12) (dCons (dOp fIx (dOp fDGet (dVar 6) (dVar 12)) (dC (.int 0))) dNil))) [12]) (dCons (dVar 7) (dCons (dLst dNil) dNil)))) dNil))))) (dRet (dC (.bl false)))
  dNext)
  (dSeq (dFor (dItL (dVar 13)) (dName 14)
  (dDrop (dBM mApp (dVar 14) (dCons (dC (.int 0)) dNil))))
  (dIfS (dNot (dB (dCall (LW.m__law_same 6) (dCons (dMeth 0 m_House_copies (dVar 4) dNil) (dCons (dC (.int 0)) dNil))))) (dRet (dC (.bl false)))
  dNext)))))))
  (dRet (dC (.bl true))))))))
def m_law : DL := dDef 1 15 b_law
theorem u_law (a0 : EV) (h : EH) : m_law [a0] h = (b_law [some a0, none, none, none, none, none, none, none, none, none, none, none, none, none, none] h).bind kDef := rfl
def flds_House : List Str := ["_number", "_many", "_today", "_next_number", "_copies", "_tied", "_came", "_there", "_called_back", "_settled", "_aware"]
def ctH (C0 : Addr) : Nat → Addr × List Str := fun c => match c with | _ => (C0, flds_House)
structure Top (K : Fg) (mg : Str → Option Value) (C0 : Addr) : Prop where
  b_bool : mg "bool" = none
  b_dict : mg "dict" = none
  b_int : mg "int" = none
  b_isinstance : mg "isinstance" = none
  b_len : mg "len" = none
  b_list : mg "list" = none
  b_range : mg "range" = none
  b_sorted : mg "sorted" = none
  b_str : mg "str" = none
  b_tuple : mg "tuple" = none
  g_FEWEST_HOUSES : ∃ t, mg "FEWEST_HOUSES" = some (.int 2 t)
  g_LAST_DAY : ∃ t, mg "LAST_DAY" = some (.int 10000 t)
  g_LONGEST_LIFE : ∃ t, mg "LONGEST_LIFE" = some (.int 30 t)
  g_MOST_HOUSES : ∃ t, mg "MOST_HOUSES" = some (.int 8 t)
  g_MOST_WORTH : ∃ t, mg "MOST_WORTH" = some (.int 999 t)
  g_NEWS : ∃ t, mg "NEWS" = some (.str "news" t)
  k_House : Cd K (ctH C0 0)
  g_House : mg "House" = some (.ref (ctH C0 0).1)
  f__law_start : Tx K mg "_law_start" s__law_start ["_law_script"]
  f__law_drawn : Tx K mg "_law_drawn" s__law_drawn ["_law_state", "_law_many"]
  f_is_whole : Tx K mg "is_whole" s_is_whole ["value", "low", "high"]
  f_check_count : Tx K mg "check_count" s_check_count ["many"]
  f_check_house : Tx K mg "check_house" s_check_house ["house", "many"]
  f_House___init__ : TxI K (ctH C0 0).1 "House.__init__" s_House___init__ ["self", "number", "many"]
  f_House_notes : TxM K (ctH C0 0).1 "notes" "House.notes" s_House_notes ["self"]
  f_House_came : TxM K (ctH C0 0).1 "came" "House.came" s_House_came ["self"]
  f_House__unsettled : TxM K (ctH C0 0).1 "_unsettled" "House._unsettled" s_House__unsettled ["self", "other"]
  f_House__untold_backs : TxM K (ctH C0 0).1 "_untold_backs" "House._untold_backs" s_House__untold_backs ["self", "other"]
  f_House_letters : TxM K (ctH C0 0).1 "letters" "House.letters" s_House_letters ["self"]
  f_House_day : TxM K (ctH C0 0).1 "day" "House.day" s_House_day ["self", "number"]
  f__law_same : Tx K mg "_law_same" s__law_same ["_law_found", "_law_due"]
  f_House_copies : TxM K (ctH C0 0).1 "copies" "House.copies" s_House_copies ["self"]
  f_House__take : TxM K (ctH C0 0).1 "_take" "House._take" s_House__take ["self", "mark", "worth", "end"]
  f_House_write : TxM K (ctH C0 0).1 "write" "House.write" s_House_write ["self", "worth", "life"]
  f_is_two : Tx K mg "is_two" s_is_two ["value", "first", "second"]
  f_House__is_own : TxM K (ctH C0 0).1 "_is_own" "House._is_own" s_House__is_own ["self", "mark"]
  f_House__drop : TxM K (ctH C0 0).1 "_drop" "House._drop" s_House__drop ["self", "mark"]
  f_House_call_back : TxM K (ctH C0 0).1 "call_back" "House.call_back" s_House_call_back ["self", "mark"]
  f_law : Tx K mg "law" s_law ["_law_script"]
section
variable {P : Program} {w : World} {K : Fg} {mg : Str → Option Value} {base : Heap} {C0 : Addr}
theorem d__law_start (T : Top K mg C0) : FnD P w K mg base (ctH C0) 1 "_law_start" LW.m__law_start := by
  refine fnd_mk T.f__law_start sc__law_start fun f cdv A outer s H E hr => ?_
  exact (xss_cons (xs_set 1 sc__law_start.nd xe_int)
    (xss_cons (xs_for PassesOwn.never rfl (xi_list (xe_var 0)) (xg_name 2 sc__law_start.nd)
    (xss_one (xs_set 1 sc__law_start.nd (xe_op o_mod (xe_op o_add (xe_op o_add (xe_op o_mul (xe_var 1) xe_int) (xe_var 2)) xe_int) xe_int))))
    (xss_one (xs_ret (xe_lst (xa_cons (xe_var 0) (xa_cons xe_int (xa_cons (xe_var 1) (xa_cons xe_int xa_nil)))))))))
theorem d__law_drawn (T : Top K mg C0) : FnD P w K mg base (ctH C0) 1 "_law_drawn" LW.m__law_drawn := by
  refine fnd_mk T.f__law_drawn sc__law_drawn fun f cdv A outer s H E hr => ?_
  exact (xss_cons (xs_if (xt_cmp o_gt (xe_ix i_ix (xe_var 0) xe_int) xe_int) (xss_cons (xs_set 2 sc__law_drawn.nd (xe_op o_mod (xe_ix i_ix (xe_var 0) xe_int) (xe_var 1)))
    (xss_cons (xs_asg (xe_op o_div (xe_ix i_ix (xe_var 0) xe_int) (xe_var 1)) (xg_sub (xe_var 0) xe_int set_lst))
    (xss_one (xs_ret (xe_var 2)))))
    xss_nil)
    (xss_cons (xs_asg (xe_op o_add (xe_ix i_ix (xe_var 0) xe_int) xe_int) (xg_sub (xe_var 0) xe_int set_lst))
    (xss_cons (xs_if (xt_cmp o_le (xe_ix i_ix (xe_var 0) xe_int) (xe_callB c_len (by rfl) T.b_len (by decide +kernel) (xa_cons (xe_ix i_ix (xe_var 0) xe_int) xa_nil))) (xss_cons (xs_set 3 sc__law_drawn.nd (xe_ix i_ix (xe_ix i_ix (xe_var 0) xe_int) (xe_op o_sub (xe_ix i_ix (xe_var 0) xe_int) xe_int)))
    (xss_cons (xs_asg (xe_if (xt_cmp o_ge (xe_var 3) (xe_op o_pow xe_int xe_int)) (xe_op o_div (xe_var 3) (xe_var 1)) xe_int) (xg_sub (xe_var 0) xe_int set_lst))
    (xss_one (xs_ret (xe_op o_mod (xe_var 3) (xe_var 1))))))
    xss_nil)
    (xss_cons (xs_asg (xe_op o_mod (xe_op o_add (xe_op o_mul (xe_ix i_ix (xe_var 0) xe_int) xe_int) xe_int) xe_int) (xg_sub (xe_var 0) xe_int set_lst))
    (xss_one (xs_ret (xe_op o_mod (xe_op o_div (xe_ix i_ix (xe_var 0) xe_int) xe_int) (xe_var 1))))))))
theorem d_is_whole (T : Top K mg C0) : FnD P w K mg base (ctH C0) 1 "is_whole" LW.m_is_whole := by
  refine fnd_mk T.f_is_whole sc_is_whole fun f cdv A outer s H E hr => ?_
  exact (xss_cons (xs_if (xt_w (xw_or (xt_val (xe_isi .bool_ (by rfl) T.b_isinstance (by rfl) T.b_bool (by decide +kernel) (xe_var 0))) (xw_or1 (xt_not (xt_val (xe_isi .int_ (by rfl) T.b_isinstance (by rfl) T.b_int (by decide +kernel) (xe_var 0))))))) (xss_one (xs_ret xe_bl))
    xss_nil)
    (xss_one (xs_ret (xe_chain o_le o_le (xe_var 1) (xe_var 0) (xe_var 2)))))
theorem d_check_count (T : Top K mg C0) : FnD P w K mg base (ctH C0) 2 "check_count" LW.m_check_count := by
  have c_is_whole := (d_is_whole (P := P) (w := w) (base := base) T).mono (show 1 ≤ 1 by decide)
  refine fnd_mk T.f_check_count sc_check_count fun f cdv A outer s H E hr => ?_
  exact (xss_one (xs_if (xt_not (xt_val (xe_call c_is_whole hr (by rfl) (xa_cons (xe_var 0) (xa_cons (xe_globI (by rfl) T.g_FEWEST_HOUSES) (xa_cons (xe_globI (by rfl) T.g_MOST_HOUSES) xa_nil)))))) (xss_one xs_never)
    xss_nil))
theorem d_check_house (T : Top K mg C0) : FnD P w K mg base (ctH C0) 2 "check_house" LW.m_check_house := by
  have c_is_whole := (d_is_whole (P := P) (w := w) (base := base) T).mono (show 1 ≤ 1 by decide)
  refine fnd_mk T.f_check_house sc_check_house fun f cdv A outer s H E hr => ?_
  exact (xss_one (xs_if (xt_not (xt_val (xe_call c_is_whole hr (by rfl) (xa_cons (xe_var 0) (xa_cons xe_int (xa_cons (xe_op o_sub (xe_var 1) xe_int) xa_nil)))))) (xss_one xs_never)
    xss_nil))
theorem d_House___init__ (T : Top K mg C0) : InitD P w K mg base (ctH C0) 3 0 m_House___init__ := by
  have c_check_count := (d_check_count (P := P) (w := w) (base := base) T).mono (show 2 ≤ 2 by decide)
  have c_check_house := (d_check_house (P := P) (w := w) (base := base) T).mono (show 2 ≤ 2 by decide)
  refine initd_mk T.f_House___init__ sc_House___init__ fun f cdv A outer s H E hr => ?_
  exact (xss_cons (xs_expr (xe_call c_check_count hr (by rfl) (xa_cons (xe_var 2) xa_nil)))
    (xss_cons (xs_expr (xe_call c_check_house hr (by rfl) (xa_cons (xe_var 1) (xa_cons (xe_var 2) xa_nil))))
    (xss_cons (xs_fld 0 0 T.k_House (by rfl) (xe_var 0) (xe_var 1))
    (xss_cons (xs_fld 0 1 T.k_House (by rfl) (xe_var 0) (xe_var 2))
    (xss_cons (xs_fld 0 2 T.k_House (by rfl) (xe_var 0) xe_int)
    (xss_cons (xs_fld 0 3 T.k_House (by rfl) (xe_var 0) xe_int)
    (xss_cons (xs_fld 0 4 T.k_House (by rfl) (xe_var 0) xe_int)
    (xss_cons (xs_fld 0 5 T.k_House (by rfl) (xe_var 0) (xe_dnew false))
    (xss_cons (xs_fld 0 6 T.k_House (by rfl) (xe_var 0) (xe_dnew true))
    (xss_cons (xs_fld 0 7 T.k_House (by rfl) (xe_var 0) (xe_dnew true))
    (xss_cons (xs_fld 0 8 T.k_House (by rfl) (xe_var 0) (xe_dnew true))
    (xss_cons (xs_fld 0 9 T.k_House (by rfl) (xe_var 0) (xe_lc1 3 rfl sc_House___init__.nd (xi_rng1 (by rfl) T.b_range (xa_cons (xe_var 2) xa_nil)) (fun _ _ _ _ _ => (xe_dnew true)) (hg := fun _ _ _ _ _ => pg_name sc_House___init__.nd rfl (by first | exact Or.inl rfl | exact Or.inr rfl))))
    (xss_one (xs_fld 0 10 T.k_House (by rfl) (xe_var 0) (xe_lc1 3 rfl sc_House___init__.nd (xi_rng1 (by rfl) T.b_range (xa_cons (xe_var 2) xa_nil)) (fun _ _ _ _ _ => (xe_dnew true)) (hg := fun _ _ _ _ _ => pg_name sc_House___init__.nd rfl (by first | exact Or.inl rfl | exact Or.inr rfl)))))))))))))))))
theorem d_House_notes (T : Top K mg C0) : MethD P w K mg base (ctH C0) 1 0 "notes" m_House_notes := by
  refine methd_mk T.f_House_notes sc_House_notes fun f cdv A outer s H E hr => ?_
  exact (xss_one (xs_ret (xe_lc1 1 rfl sc_House_notes.nd (xi_list (xe_callB (c_sorted rfl) (by rfl) T.b_sorted (by decide +kernel) (xa_cons (xe_fld 0 7 T.k_House (by rfl) (xe_var 0)) xa_nil))) (fun _ _ _ _ _ => (xe_tup (xa_cons (xe_var 1) (xa_cons (xe_ix i_ix (xe_dget (hu1 hr) (xe_fld 0 7 T.k_House (by rfl) (xe_var 0)) (xe_var 1)) xe_int) xa_nil)))) (hg := fun _ _ _ _ _ => pg_name sc_House_notes.nd rfl (by first | exact Or.inl rfl | exact Or.inr rfl)))))
theorem d_House_came (T : Top K mg C0) : MethD P w K mg base (ctH C0) 1 0 "came" m_House_came := by
  refine methd_mk T.f_House_came sc_House_came fun f cdv A outer s H E hr => ?_
  exact (xss_one (xs_ret (xe_callTy (c_keysT rfl) (by rfl) T.b_list (by decide +kernel) (xa_cons (xe_fld 0 6 T.k_House (by rfl) (xe_var 0)) xa_nil))))
theorem d_House__unsettled (T : Top K mg C0) : MethD P w K mg base (ctH C0) 1 0 "_unsettled" m_House__unsettled := by
  refine methd_mk T.f_House__unsettled sc_House__unsettled fun f cdv A outer s H E hr => ?_
  exact (xss_cons (xs_set 2 sc_House__unsettled.nd (xe_ix i_ix (xe_fld 0 9 T.k_House (by rfl) (xe_var 0)) (xe_var 1)))
    (xss_one (xs_ret (xe_callTy c_tupL (by rfl) T.b_tuple (by decide +kernel) (xa_cons (xe_lock (dFld 0 7 (dVar 0)) (xe_lc1i 3 rfl sc_House__unsettled.nd (xi_keys (xe_fld 0 7 T.k_House (by rfl) (xe_var 0))) (fun _ _ _ _ _ => (xt_cmp (o_dNotIn (hu1 hr)) (xe_var 3) (xe_var 2))) (fun _ _ _ _ _ => (xe_tup (xa_cons (xe_var 3) (xa_cons (xe_ix i_ix (xe_dget (hu1 hr) (xe_fld 0 7 T.k_House (by rfl) (xe_var 0)) (xe_var 3)) xe_int) xa_nil)))) (hg := fun _ _ _ _ _ => pg_name sc_House__unsettled.nd rfl (by first | exact Or.inl rfl | exact Or.inr rfl)))) xa_nil)))))
theorem d_House__untold_backs (T : Top K mg C0) : MethD P w K mg base (ctH C0) 1 0 "_untold_backs" m_House__untold_backs := by
  refine methd_mk T.f_House__untold_backs sc_House__untold_backs fun f cdv A outer s H E hr => ?_
  exact (xss_cons (xs_set 2 sc_House__untold_backs.nd (xe_ix i_ix (xe_fld 0 10 T.k_House (by rfl) (xe_var 0)) (xe_var 1)))
    (xss_one (xs_ret (xe_callTy c_tupL (by rfl) T.b_tuple (by decide +kernel) (xa_cons (xe_lock (dFld 0 8 (dVar 0)) (xe_lc1i 3 rfl sc_House__untold_backs.nd (xi_keys (xe_fld 0 8 T.k_House (by rfl) (xe_var 0))) (fun _ _ _ _ _ => (xt_cmp (o_dNotIn (hu1 hr)) (xe_var 3) (xe_var 2))) (fun _ _ _ _ _ => (xe_var 3)) (hg := fun _ _ _ _ _ => pg_name sc_House__untold_backs.nd rfl (by first | exact Or.inl rfl | exact Or.inr rfl)))) xa_nil)))))
theorem d_House_letters (T : Top K mg C0) : MethD P w K mg base (ctH C0) 2 0 "letters" m_House_letters := by
  have c_House__unsettled := (d_House__unsettled (P := P) (w := w) (base := base) T).mono (show 1 ≤ 1 by decide)
  have c_House__untold_backs := (d_House__untold_backs (P := P) (w := w) (base := base) T).mono (show 1 ≤ 1 by decide)
  refine methd_mk T.f_House_letters sc_House_letters fun f cdv A outer s H E hr => ?_
  exact (xss_cons (xs_set 1 sc_House_letters.nd (xe_lst xa_nil))
    (xss_cons (xs_for PassesOwn.never rfl (xi_list (xe_callB (c_sorted rfl) (by rfl) T.b_sorted (by decide +kernel) (xa_cons (xe_fld 0 5 T.k_House (by rfl) (xe_var 0)) xa_nil))) (xg_name 2 sc_House_letters.nd)
    (xss_cons (xs_set 3 sc_House_letters.nd (xe_meth 0 _ T.k_House c_House__unsettled hr (show ("_unsettled" : Str) ∉ flds_House by decide +kernel) (xe_var 0) (xa_cons (xe_var 2) xa_nil)))
    (xss_cons (xs_set 4 sc_House_letters.nd (xe_meth 0 _ T.k_House c_House__untold_backs hr (show ("_untold_backs" : Str) ∉ flds_House by decide +kernel) (xe_var 0) (xa_cons (xe_var 2) xa_nil)))
    (xss_one (xs_if (xt_w (xw_or (xt_tru (xe_var 3)) (xw_or1 (xt_tru (xe_var 4))))) (xss_one (xs_expr (xe_append (xe_var 1) (xa_cons (xe_tup (xa_cons (xe_var 2) (xa_cons (xe_tup (xa_cons (xe_globS (by rfl) T.g_NEWS) (xa_cons (xe_fld 0 0 T.k_House (by rfl) (xe_var 0)) (xa_cons (xe_var 3) (xa_cons (xe_var 4) xa_nil))))) xa_nil))) xa_nil))))
    xss_nil)))))
    (xss_one (xs_ret (xe_var 1)))))
theorem d_House_day (T : Top K mg C0) : MethD P w K mg base (ctH C0) 2 0 "day" m_House_day := by
  have c_is_whole := (d_is_whole (P := P) (w := w) (base := base) T).mono (show 1 ≤ 1 by decide)
  refine methd_mk T.f_House_day sc_House_day fun f cdv A outer s H E hr => ?_
  exact (xss_cons (xs_if (xt_not (xt_val (xe_call c_is_whole hr (by rfl) (xa_cons (xe_var 1) (xa_cons (xe_op o_add (xe_fld 0 2 T.k_House (by rfl) (xe_var 0)) xe_int) (xa_cons (xe_globI (by rfl) T.g_LAST_DAY) xa_nil)))))) (xss_one xs_never)
    xss_nil)
    (xss_cons (xs_fld 0 2 T.k_House (by rfl) (xe_var 0) (xe_var 1))
    (xss_one (xs_fld 0 7 T.k_House (by rfl) (xe_var 0) (xe_lock (dFld 0 7 (dVar 0)) (xe_dci true [("mark", 2), ("kept", 3)] (hu1 hr) rfl sc_House_day.nd (xi_itemsT (xe_fld 0 7 T.k_House (by rfl) (xe_var 0))) (fun _ _ _ _ _ => (xt_cmp o_gt (xe_ix i_ix (xe_var 3) xe_int) (xe_var 1))) (fun _ _ _ _ _ => (xe_var 2)) (fun _ _ _ _ _ => (xe_var 3)) (fun _ _ _ _ _ => (pg_tup rfl (pgs_cons (pg_name sc_House_day.nd rfl (by first | exact Or.inl rfl | exact Or.inr rfl)) (pgs_cons (pg_name sc_House_day.nd rfl (by first | exact Or.inl rfl | exact Or.inr rfl)) pgs_nil)))) (snd_gtup (snd_gcons snd_gname (snd_gcons snd_gname snd_gnil))) (only_tup (only_cons (only_name (by decide)) (only_cons (only_name (by decide)) only_nil)))))))))
theorem d__law_same_n (T : Top K mg C0) : ∀ n, FnD P w K mg base (ctH C0) (0 + n) "_law_same" (LW.m__law_same n)
  | 0 => (fnd_zero T.f__law_same).mono (Nat.zero_le _)
  | n + 1 => by
    have hrec := d__law_same_n T n
    refine fnd_mk T.f__law_same sc__law_same fun f cdv A outer s H E hr => ?_
    exact (xss_cons (xs_if (xt_val (xe_isi2 .tuple_ .list_ (by rfl) T.b_isinstance (by rfl) T.b_tuple (by decide +kernel) (by rfl) T.b_list (by decide +kernel) (xe_var 1))) (xss_cons (xs_if (xt_w (xw_or (xt_not (xt_val (xe_isi2 .tuple_ .list_ (by rfl) T.b_isinstance (by rfl) T.b_tuple (by decide +kernel) (by rfl) T.b_list (by decide +kernel) (xe_var 0)))) (xw_or1 (xt_cmp (o_ne (hu64 hr)) (xe_isi .list_ (by rfl) T.b_isinstance (by rfl) T.b_list (by decide +kernel) (xe_var 0)) (xe_isi .list_ (by rfl) T.b_isinstance (by rfl) T.b_list (by decide +kernel) (xe_var 1)))))) (xss_one (xs_ret xe_bl))
    xss_nil)
    (xss_cons (xs_if (xt_cmp (o_ne (hu64 hr)) (xe_callB c_len (by rfl) T.b_len (by decide +kernel) (xa_cons (xe_var 0) xa_nil)) (xe_callB c_len (by rfl) T.b_len (by decide +kernel) (xa_cons (xe_var 1) xa_nil))) (xss_one (xs_ret xe_bl))
    xss_nil)
    (xss_one (xs_ret (xe_cmp (o_eq (hu64 hr)) (xe_lc1i 2 rfl sc__law_same.nd (xi_rng1 (by rfl) T.b_range (xa_cons (xe_callB c_len (by rfl) T.b_len (by decide +kernel) (xa_cons (xe_var 1) xa_nil)) xa_nil)) (fun _ _ _ _ _ => (xt_not (xt_val (xe_call hrec hr (by rfl) (xa_cons (xe_ix i_ix (xe_var 0) (xe_var 2)) (xa_cons (xe_ix i_ix (xe_var 1) (xe_var 2)) xa_nil)))))) (fun _ _ _ _ _ => (xe_var 2)) (hg := fun _ _ _ _ _ => pg_name sc__law_same.nd rfl (by first | exact Or.inl rfl | exact Or.inr rfl))) (xe_lst xa_nil))))))
    xss_nil)
    (xss_cons (xs_if (xt_cmp o_isN (xe_var 1) xe_non) (xss_one (xs_ret (xe_cmp o_isN (xe_var 0) xe_non)))
    xss_nil)
    (xss_cons (xs_if (xt_val (xe_isi .str_ (by rfl) T.b_isinstance (by rfl) T.b_str (by decide +kernel) (xe_var 1))) (xss_one (xs_ret (xe_and (xe_isi .str_ (by rfl) T.b_isinstance (by rfl) T.b_str (by decide +kernel) (xe_var 0)) (xe_one (xe_cmp (o_eq (hu64 hr)) (xe_var 0) (xe_var 1))))))
    xss_nil)
    (xss_cons (xs_if (xt_w (xw_or (xt_val (xe_isi .bool_ (by rfl) T.b_isinstance (by rfl) T.b_bool (by decide +kernel) (xe_var 1))) (xw_or1 (xt_val (xe_isi .bool_ (by rfl) T.b_isinstance (by rfl) T.b_bool (by decide +kernel) (xe_var 0)))))) (xss_one (xs_ret (xe_and (xe_isi .bool_ (by rfl) T.b_isinstance (by rfl) T.b_bool (by decide +kernel) (xe_var 1)) (xe_and (xe_isi .bool_ (by rfl) T.b_isinstance (by rfl) T.b_bool (by decide +kernel) (xe_var 0)) (xe_one (xe_cmp (o_eq (hu64 hr)) (xe_var 0) (xe_var 1)))))))
    xss_nil)
    (xss_one (xs_ret (xe_and (xe_isi .int_ (by rfl) T.b_isinstance (by rfl) T.b_int (by decide +kernel) (xe_var 0)) (xe_one (xe_cmp (o_eq (hu64 hr)) (xe_var 0) (xe_var 1))))))))))
theorem d__law_same (T : Top K mg C0) : FnD P w K mg base (ctH C0) 6 "_law_same" (LW.m__law_same 6) := d__law_same_n T 6
theorem d_House_copies (T : Top K mg C0) : MethD P w K mg base (ctH C0) 1 0 "copies" m_House_copies := by
  refine methd_mk T.f_House_copies sc_House_copies fun f cdv A outer s H E hr => ?_
  exact (xss_one (xs_ret (xe_fld 0 4 T.k_House (by rfl) (xe_var 0))))
theorem d_House__take (T : Top K mg C0) : MethD P w K mg base (ctH C0) 1 0 "_take" m_House__take := by
  refine methd_mk T.f_House__take sc_House__take fun f cdv A outer s H E hr => ?_
  exact (xss_cons (xs_asg xe_bl (xg_sub (xe_fld 0 6 T.k_House (by rfl) (xe_var 0)) (xe_var 1) (set_dic (hu1 hr))))
    (xss_one (xs_asg (xe_tup (xa_cons (xe_var 2) (xa_cons (xe_var 3) xa_nil))) (xg_sub (xe_fld 0 7 T.k_House (by rfl) (xe_var 0)) (xe_var 1) (set_dic (hu1 hr))))))
theorem d_House_write (T : Top K mg C0) : MethD P w K mg base (ctH C0) 2 0 "write" m_House_write := by
  have c_House__take := (d_House__take (P := P) (w := w) (base := base) T).mono (show 1 ≤ 1 by decide)
  have c_is_whole := (d_is_whole (P := P) (w := w) (base := base) T).mono (show 1 ≤ 1 by decide)
  refine methd_mk T.f_House_write sc_House_write fun f cdv A outer s H E hr => ?_
  exact (xss_cons (xs_if (xt_not (xt_val (xe_call c_is_whole hr (by rfl) (xa_cons (xe_var 1) (xa_cons xe_int (xa_cons (xe_globI (by rfl) T.g_MOST_WORTH) xa_nil)))))) (xss_one xs_never)
    xss_nil)
    (xss_cons (xs_if (xt_not (xt_val (xe_call c_is_whole hr (by rfl) (xa_cons (xe_var 2) (xa_cons xe_int (xa_cons (xe_globI (by rfl) T.g_LONGEST_LIFE) xa_nil)))))) (xss_one xs_never)
    xss_nil)
    (xss_cons (xs_set 3 sc_House_write.nd (xe_tup (xa_cons (xe_fld 0 0 T.k_House (by rfl) (xe_var 0)) (xa_cons (xe_fld 0 3 T.k_House (by rfl) (xe_var 0)) xa_nil))))
    (xss_cons (xs_fldaug 0 3 T.k_House (by rfl) o_iadd (xe_var 0) xe_int)
    (xss_cons (xs_expr (xe_meth 0 _ T.k_House c_House__take hr (show ("_take" : Str) ∉ flds_House by decide +kernel) (xe_var 0) (xa_cons (xe_var 3) (xa_cons (xe_var 1) (xa_cons (xe_op o_add (xe_fld 0 2 T.k_House (by rfl) (xe_var 0)) (xe_var 2)) xa_nil)))))
    (xss_one (xs_ret (xe_var 3))))))))
theorem d_is_two (T : Top K mg C0) : FnD P w K mg base (ctH C0) 2 "is_two" LW.m_is_two := by
  have c_is_whole := (d_is_whole (P := P) (w := w) (base := base) T).mono (show 1 ≤ 1 by decide)
  refine fnd_mk T.f_is_two sc_is_two fun f cdv A outer s H E hr => ?_
  exact (xss_cons (xs_if (xt_w (xw_or (xt_not (xt_val (xe_isi .tuple_ (by rfl) T.b_isinstance (by rfl) T.b_tuple (by decide +kernel) (xe_var 0)))) (xw_or1 (xt_cmp (o_ne (hu64 hr)) (xe_callB c_len (by rfl) T.b_len (by decide +kernel) (xa_cons (xe_var 0) xa_nil)) xe_int)))) (xss_one (xs_ret xe_bl))
    xss_nil)
    (xss_one (xs_ret (xe_and (xe_call c_is_whole hr (by rfl) (xa_cons (xe_ix i_ix (xe_var 0) xe_int) (xa_cons xe_int (xa_cons (xe_var 1) xa_nil)))) (xe_one (xe_call c_is_whole hr (by rfl) (xa_cons (xe_ix i_ix (xe_var 0) xe_int) (xa_cons xe_int (xa_cons (xe_var 2) xa_nil)))))))))
theorem d_House__is_own (T : Top K mg C0) : MethD P w K mg base (ctH C0) 3 0 "_is_own" m_House__is_own := by
  have c_is_two := (d_is_two (P := P) (w := w) (base := base) T).mono (show 2 ≤ 2 by decide)
  refine methd_mk T.f_House__is_own sc_House__is_own fun f cdv A outer s H E hr => ?_
  exact (xss_one (xs_ret (xe_and (xe_call c_is_two hr (by rfl) (xa_cons (xe_var 1) (xa_cons (xe_fld 0 0 T.k_House (by rfl) (xe_var 0)) (xa_cons (xe_op o_sub (xe_fld 0 3 T.k_House (by rfl) (xe_var 0)) xe_int) xa_nil)))) (xe_one (xe_cmp (o_eq (hu64 hr)) (xe_ix i_ix (xe_var 1) xe_int) (xe_fld 0 0 T.k_House (by rfl) (xe_var 0)))))))
theorem d_House__drop (T : Top K mg C0) : MethD P w K mg base (ctH C0) 1 0 "_drop" m_House__drop := by
  refine methd_mk T.f_House__drop sc_House__drop fun f cdv A outer s H E hr => ?_
  exact (xss_cons (xs_asg xe_bl (xg_sub (xe_fld 0 8 T.k_House (by rfl) (xe_var 0)) (xe_var 1) (set_dic (hu1 hr))))
    (xss_one (xs_expr (xe_popT (hu1 hr) (xe_fld 0 7 T.k_House (by rfl) (xe_var 0)) (xa_cons (xe_var 1) (xa_cons xe_non xa_nil))))))
theorem d_House_call_back (T : Top K mg C0) : MethD P w K mg base (ctH C0) 4 0 "call_back" m_House_call_back := by
  have c_House__is_own := (d_House__is_own (P := P) (w := w) (base := base) T).mono (show 3 ≤ 3 by decide)
  have c_House__drop := (d_House__drop (P := P) (w := w) (base := base) T).mono (show 1 ≤ 3 by decide)
  refine methd_mk T.f_House_call_back sc_House_call_back fun f cdv A outer s H E hr => ?_
  exact (xss_cons (xs_if (xt_not (xt_val (xe_meth 0 _ T.k_House c_House__is_own hr (show ("_is_own" : Str) ∉ flds_House by decide +kernel) (xe_var 0) (xa_cons (xe_var 1) xa_nil)))) (xss_one xs_never)
    xss_nil)
    (xss_one (xs_if (xt_cmp (o_dIn (hu1 hr)) (xe_var 1) (xe_fld 0 7 T.k_House (by rfl) (xe_var 0))) (xss_one (xs_expr (xe_meth 0 _ T.k_House c_House__drop hr (show ("_drop" : Str) ∉ flds_House by decide +kernel) (xe_var 0) (xa_cons (xe_var 1) xa_nil))))
    xss_nil)))
theorem d_law_at {f : Addr} {fd : FuncData} (F : Fun K "law" "law" s_law f fd) (T : Top K mg C0) : FnOk P w K mg base CX0 7 f fd ["_law_script"] (spD0 ⟨K, (ctH C0)⟩ m_law) := by
  have c__law_start := (d__law_start (P := P) (w := w) (base := base) T).mono (show 1 ≤ 6 by decide)
  have c__law_drawn := (d__law_drawn (P := P) (w := w) (base := base) T).mono (show 1 ≤ 6 by decide)
  have c_House___init__ := (d_House___init__ (P := P) (w := w) (base := base) T).mono (show 3 ≤ 5 by decide)
  have c_House_notes := (d_House_notes (P := P) (w := w) (base := base) T).mono (show 1 ≤ 6 by decide)
  have c_House_came := (d_House_came (P := P) (w := w) (base := base) T).mono (show 1 ≤ 6 by decide)
  have c_House_letters := (d_House_letters (P := P) (w := w) (base := base) T).mono (show 2 ≤ 6 by decide)
  have c_House_day := (d_House_day (P := P) (w := w) (base := base) T).mono (show 2 ≤ 6 by decide)
  have c__law_same := (d__law_same (P := P) (w := w) (base := base) T).mono (show 6 ≤ 6 by decide)
  have c_House_copies := (d_House_copies (P := P) (w := w) (base := base) T).mono (show 1 ≤ 6 by decide)
  have c_House_write := (d_House_write (P := P) (w := w) (base := base) T).mono (show 2 ≤ 6 by decide)
  have c_House_call_back := (d_House_call_back (P := P) (w := w) (base := base) T).mono (show 4 ≤ 6 by decide)
  refine fn_d F sc_law fun cdv A outer s H E hr => ?_
  exact (xss_cons (xs_set 1 sc_law.nd (xe_call c__law_start hr (by rfl) (xa_cons (xe_var 0) xa_nil)))
    (xss_cons (xs_set 2 sc_law.nd (xe_op o_add xe_int (xe_call c__law_drawn hr (by rfl) (xa_cons (xe_var 1) (xa_cons xe_int xa_nil)))))
    (xss_cons (xs_set 3 sc_law.nd (xe_call c__law_drawn hr (by rfl) (xa_cons (xe_var 1) (xa_cons (xe_var 2) xa_nil))))
    (xss_cons (xs_asg (xe_tup (xa_cons (xe_make 0 c_House___init__ hr (by rfl) T.g_House (xa_cons (xe_var 3) (xa_cons (xe_var 2) xa_nil))) (xa_cons xe_int (xa_cons (xe_dnew true) (xa_cons (xe_lst xa_nil) xa_nil))))) (xg_tup rfl (xgs_cons (xg_name 4 sc_law.nd) (xgs_cons (xg_name 5 sc_law.nd) (xgs_cons (xg_name 6 sc_law.nd) (xgs_cons (xg_name 7 sc_law.nd) xgs_nil))))))
    (xss_cons (xs_for PassesOwn.never rfl (xi_rng1 (by rfl) T.b_range (xa_cons (xe_call c__law_drawn hr (by rfl) (xa_cons (xe_var 1) (xa_cons xe_int xa_nil))) xa_nil)) (xg_name 8 sc_law.nd)
    (xss_cons (xs_set 9 sc_law.nd (xe_call c__law_drawn hr (by rfl) (xa_cons (xe_var 1) (xa_cons xe_int xa_nil))))
    (xss_cons (xs_if (xt_w (xw_or (xt_cmp o_lt (xe_var 9) xe_int) (xw_or1 (xt_cmp (o_eq (hu64 hr)) (xe_var 7) (xe_lst xa_nil))))) (xss_cons (xs_par 10 11 rfl sc_law.nd (xa_cons (xe_call c__law_drawn hr (by rfl) (xa_cons (xe_var 1) (xa_cons xe_int xa_nil))) (xa_cons (xe_op o_add xe_int (xe_call c__law_drawn hr (by rfl) (xa_cons (xe_var 1) (xa_cons (xe_ix i_ix (xe_lst (xa_cons xe_int (xa_cons xe_int xa_nil))) (xe_call c__law_drawn hr (by rfl) (xa_cons (xe_var 1) (xa_cons xe_int xa_nil)))) xa_nil)))) xa_nil)) rfl)
    (xss_cons (xs_if (xt_not (xt_val (xe_call c__law_same hr (by rfl) (xa_cons (xe_meth 0 _ T.k_House c_House_write hr (show ("write" : Str) ∉ flds_House by decide +kernel) (xe_var 4) (xa_cons (xe_var 10) (xa_cons (xe_var 11) xa_nil))) (xa_cons (xe_tup (xa_cons (xe_var 3) (xa_cons (xe_callB c_len (by rfl) T.b_len (by decide +kernel) (xa_cons (xe_var 7) xa_nil)) xa_nil))) xa_nil))))) (xss_one (xs_ret xe_bl))
    xss_nil)
    (xss_cons (xs_asg (xe_tup (xa_cons (xe_var 10) (xa_cons (xe_op o_add (xe_var 5) (xe_var 11)) xa_nil))) (xg_sub (xe_var 6) (xe_tup (xa_cons (xe_var 3) (xa_cons (xe_callB c_len (by rfl) T.b_len (by decide +kernel) (xa_cons (xe_var 7) xa_nil)) xa_nil))) (set_dic (hu1 hr))))
    (xss_one (xs_expr (xe_append (xe_var 7) (xa_cons (xe_tup (xa_cons (xe_var 3) (xa_cons (xe_callB c_len (by rfl) T.b_len (by decide +kernel) (xa_cons (xe_var 7) xa_nil)) xa_nil))) xa_nil)))))))
    (xss_one (xs_if (xt_cmp (o_eq (hu64 hr)) (xe_var 9) xe_int) (xss_cons (xs_set 12 sc_law.nd (xe_ix i_ix (xe_var 7) (xe_call c__law_drawn hr (by rfl) (xa_cons (xe_var 1) (xa_cons (xe_callB c_len (by rfl) T.b_len (by decide +kernel) (xa_cons (xe_var 7) xa_nil)) xa_nil)))))
    (xss_cons (xs_expr (xe_popT (hu1 hr) (xe_var 6) (xa_cons (xe_var 12) (xa_cons xe_non xa_nil))))
    (xss_one (xs_if (xt_cmp o_notN (xe_meth 0 _ T.k_House c_House_call_back hr (show ("call_back" : Str) ∉ flds_House by decide +kernel) (xe_var 4) (xa_cons (xe_var 12) xa_nil)) xe_non) (xss_one (xs_ret xe_bl))
    xss_nil))))
    (xss_cons (xs_set 5 sc_law.nd (xe_op o_add (xe_op o_add (xe_var 5) xe_int) (xe_call c__law_drawn hr (by rfl) (xa_cons (xe_var 1) (xa_cons (xe_ix i_ix (xe_lst (xa_cons xe_int (xa_cons xe_int (xa_cons xe_int xa_nil)))) (xe_call c__law_drawn hr (by rfl) (xa_cons (xe_var 1) (xa_cons xe_int xa_nil)))) xa_nil)))))
    (xss_cons (xs_expr (xe_meth 0 _ T.k_House c_House_day hr (show ("day" : Str) ∉ flds_House by decide +kernel) (xe_var 4) (xa_cons (xe_var 5) xa_nil)))
    (xss_one (xs_set 6 sc_law.nd (xe_callTy (c_dictT rfl (hu2 hr)) (by rfl) T.b_dict (by decide +kernel) (xa_cons (xe_lock (dVar 6) (xe_lc1i 12 rfl sc_law.nd (xi_keys (xe_var 6)) (fun _ _ _ _ _ => (xt_cmp o_gt (xe_ix i_ix (xe_dget (hu1 hr) (xe_var 6) (xe_var 12)) xe_int) (xe_var 5))) (fun _ _ _ _ _ => (xe_tup (xa_cons (xe_var 12) (xa_cons (xe_dget (hu1 hr) (xe_var 6) (xe_var 12)) xa_nil)))) (hg := fun _ _ _ _ _ => pg_name sc_law.nd rfl (by first | exact Or.inl rfl | exact Or.inr rfl)))) xa_nil)))))))))
    (xss_cons (xs_set 13 sc_law.nd (xe_lst (xa_cons (xe_meth0 0 _ T.k_House c_House_notes hr (show ("notes" : Str) ∉ flds_House by decide +kernel) (xe_var 4)) (xa_cons (xe_meth0 0 _ T.k_House c_House_came hr (show ("came" : Str) ∉ flds_House by decide +kernel) (xe_var 4)) (xa_cons (xe_meth0 0 _ T.k_House c_House_letters hr (show ("letters" : Str) ∉ flds_House by decide +kernel) (xe_var 4)) xa_nil)))))
    (xss_cons (xs_if (xt_not (xt_val (xe_call c__law_same hr (by rfl) (xa_cons (xe_var 13) (xa_cons (xe_lst (xa_cons (xe_lc1 12 rfl sc_law.nd (xi_list (xe_callB (c_sorted rfl) (by rfl) T.b_sorted (by decide +kernel) (xa_cons (xe_var 6) xa_nil))) (fun _ _ _ _ _ => (xe_tup (xa_cons (xe_var 12) (xa_cons (xe_ix i_ix (xe_dget (hu1 hr) (xe_var 6) (xe_var 12)) xe_int) xa_nil)))) (hg := fun _ _ _ _ _ => pg_name sc_law.nd rfl (by first | exact Or.inl rfl | exact Or.inr rfl))) (xa_cons (xe_var 7) (xa_cons (xe_lst xa_nil) xa_nil)))) xa_nil))))) (xss_one (xs_ret xe_bl))
    xss_nil)
    (xss_cons (xs_for PassesOwn.never rfl (xi_list (xe_var 13)) (xg_name 14 sc_law.nd)
    (xss_one (xs_expr (xe_append (xe_var 14) (xa_cons xe_int xa_nil)))))
    (xss_one (xs_if (xt_not (xt_val (xe_call c__law_same hr (by rfl) (xa_cons (xe_meth0 0 _ T.k_House c_House_copies hr (show ("copies" : Str) ∉ flds_House by decide +kernel) (xe_var 4)) (xa_cons xe_int xa_nil))))) (xss_one (xs_ret xe_bl))
    xss_nil))))))))
    (xss_one (xs_ret xe_bl)))))))
end
theorem all_mk {l : PySem.W.OpenLaw} {w : World} {K : Fg} {h : Heap} {mg : Str → Option Value} {fa : Addr} (X : K.In h) (G : h.Ns mainGlobals mg) (hfa : mg "law" = some (.ref fa))
    {C0 : Addr} (aC0 : PySem.W.nsIn K mainGlobals "House" = some (some (.ref C0))) (pg0 : PySem.W.plainGet K C0 Str.empty = true) (hd0 : PySem.W.hasDictIn K C0 = true) (po0 : PySem.W.plainOver K C0 = true) (sa0 : PySem.W.findIn K (.ref C0) "__setattr__" = some (some (.builtin "object.__setattr__"))) (mk0 : PySem.W.makesIn K C0 = true) (kC0 : PySem.W.keepIn K (.ref C0) = true)
    (n0_0 : PySem.W.findIn K (.ref C0) "_number" = some none)
    (n0_1 : PySem.W.findIn K (.ref C0) "_many" = some none)
    (n0_2 : PySem.W.findIn K (.ref C0) "_today" = some none)
    (n0_3 : PySem.W.findIn K (.ref C0) "_next_number" = some none)
    (n0_4 : PySem.W.findIn K (.ref C0) "_copies" = some none)
    (n0_5 : PySem.W.findIn K (.ref C0) "_tied" = some none)
    (n0_6 : PySem.W.findIn K (.ref C0) "_came" = some none)
    (n0_7 : PySem.W.findIn K (.ref C0) "_there" = some none)
    (n0_8 : PySem.W.findIn K (.ref C0) "_called_back" = some none)
    (n0_9 : PySem.W.findIn K (.ref C0) "_settled" = some none)
    (n0_10 : PySem.W.findIn K (.ref C0) "_aware" = some none)
    {od0 an0 : Option Addr} {sl0 : Array (Option Value)} {oc0 kV0 dc0 pm0 cd0 ct0 : Value} {f0 : Addr}
    (a0 : PySem.W.nsIn K mainGlobals "_law_start" = some (some (.ref f0)))
    (l0 : K.lookup f0 = some ⟨oc0, od0, .func (PySem.W.fnOf "_law_start" "_law_start" (defArgs s__law_start) (defBody s__law_start) (defScope s__law_start) .none kV0 dc0 pm0 an0 cd0 ct0), sl0⟩) (c0 : PySem.W.codeIn K cd0 "_law_start" = true) (k0 : PySem.W.keepIn K (.ref f0) = true)
    {od1 an1 : Option Addr} {sl1 : Array (Option Value)} {oc1 kV1 dc1 pm1 cd1 ct1 : Value} {f1 : Addr}
    (a1 : PySem.W.nsIn K mainGlobals "_law_drawn" = some (some (.ref f1)))
    (l1 : K.lookup f1 = some ⟨oc1, od1, .func (PySem.W.fnOf "_law_drawn" "_law_drawn" (defArgs s__law_drawn) (defBody s__law_drawn) (defScope s__law_drawn) .none kV1 dc1 pm1 an1 cd1 ct1), sl1⟩) (c1 : PySem.W.codeIn K cd1 "_law_drawn" = true) (k1 : PySem.W.keepIn K (.ref f1) = true)
    {od2 an2 : Option Addr} {sl2 : Array (Option Value)} {oc2 kV2 dc2 pm2 cd2 ct2 : Value} {f2 : Addr}
    (a2 : PySem.W.nsIn K mainGlobals "is_whole" = some (some (.ref f2)))
    (l2 : K.lookup f2 = some ⟨oc2, od2, .func (PySem.W.fnOf "is_whole" "is_whole" (defArgs s_is_whole) (defBody s_is_whole) (defScope s_is_whole) .none kV2 dc2 pm2 an2 cd2 ct2), sl2⟩) (c2 : PySem.W.codeIn K cd2 "is_whole" = true) (k2 : PySem.W.keepIn K (.ref f2) = true)
    {od3 an3 : Option Addr} {sl3 : Array (Option Value)} {oc3 kV3 dc3 pm3 cd3 ct3 : Value} {f3 : Addr}
    (a3 : PySem.W.nsIn K mainGlobals "check_count" = some (some (.ref f3)))
    (l3 : K.lookup f3 = some ⟨oc3, od3, .func (PySem.W.fnOf "check_count" "check_count" (defArgs s_check_count) (defBody s_check_count) (defScope s_check_count) .none kV3 dc3 pm3 an3 cd3 ct3), sl3⟩) (c3 : PySem.W.codeIn K cd3 "check_count" = true) (k3 : PySem.W.keepIn K (.ref f3) = true)
    {od4 an4 : Option Addr} {sl4 : Array (Option Value)} {oc4 kV4 dc4 pm4 cd4 ct4 : Value} {f4 : Addr}
    (a4 : PySem.W.nsIn K mainGlobals "check_house" = some (some (.ref f4)))
    (l4 : K.lookup f4 = some ⟨oc4, od4, .func (PySem.W.fnOf "check_house" "check_house" (defArgs s_check_house) (defBody s_check_house) (defScope s_check_house) .none kV4 dc4 pm4 an4 cd4 ct4), sl4⟩) (c4 : PySem.W.codeIn K cd4 "check_house" = true) (k4 : PySem.W.keepIn K (.ref f4) = true)
    {od5 an5 : Option Addr} {sl5 : Array (Option Value)} {oc5 kV5 dc5 pm5 cd5 ct5 : Value} {f5 : Addr}
    (a5 : PySem.W.findIn K (.ref C0) "__init__" = some (some (.ref f5))) (i5 : PySem.W.isFn K (.ref f5) = true)
    (l5 : K.lookup f5 = some ⟨oc5, od5, .func (PySem.W.fnOf "__init__" "House.__init__" (defArgs s_House___init__) (defBody s_House___init__) (defScope s_House___init__) .none kV5 dc5 pm5 an5 cd5 ct5), sl5⟩) (c5 : PySem.W.codeIn K cd5 "House.__init__" = true) (k5 : PySem.W.keepIn K (.ref f5) = true)
    {od6 an6 : Option Addr} {sl6 : Array (Option Value)} {oc6 kV6 dc6 pm6 cd6 ct6 : Value} {f6 : Addr}
    (a6 : PySem.W.findIn K (.ref C0) "notes" = some (some (.ref f6))) (i6 : PySem.W.isFn K (.ref f6) = true)
    (l6 : K.lookup f6 = some ⟨oc6, od6, .func (PySem.W.fnOf "notes" "House.notes" (defArgs s_House_notes) (defBody s_House_notes) (defScope s_House_notes) .none kV6 dc6 pm6 an6 cd6 ct6), sl6⟩) (c6 : PySem.W.codeIn K cd6 "House.notes" = true) (k6 : PySem.W.keepIn K (.ref f6) = true)
    {od7 an7 : Option Addr} {sl7 : Array (Option Value)} {oc7 kV7 dc7 pm7 cd7 ct7 : Value} {f7 : Addr}
    (a7 : PySem.W.findIn K (.ref C0) "came" = some (some (.ref f7))) (i7 : PySem.W.isFn K (.ref f7) = true)
    (l7 : K.lookup f7 = some ⟨oc7, od7, .func (PySem.W.fnOf "came" "House.came" (defArgs s_House_came) (defBody s_House_came) (defScope s_House_came) .none kV7 dc7 pm7 an7 cd7 ct7), sl7⟩) (c7 : PySem.W.codeIn K cd7 "House.came" = true) (k7 : PySem.W.keepIn K (.ref f7) = true)
    {od8 an8 : Option Addr} {sl8 : Array (Option Value)} {oc8 kV8 dc8 pm8 cd8 ct8 : Value} {f8 : Addr}
    (a8 : PySem.W.findIn K (.ref C0) "_unsettled" = some (some (.ref f8))) (i8 : PySem.W.isFn K (.ref f8) = true)
    (l8 : K.lookup f8 = some ⟨oc8, od8, .func (PySem.W.fnOf "_unsettled" "House._unsettled" (defArgs s_House__unsettled) (defBody s_House__unsettled) (defScope s_House__unsettled) .none kV8 dc8 pm8 an8 cd8 ct8), sl8⟩) (c8 : PySem.W.codeIn K cd8 "House._unsettled" = true) (k8 : PySem.W.keepIn K (.ref f8) = true)
    {od9 an9 : Option Addr} {sl9 : Array (Option Value)} {oc9 kV9 dc9 pm9 cd9 ct9 : Value} {f9 : Addr}
    (a9 : PySem.W.findIn K (.ref C0) "_untold_backs" = some (some (.ref f9))) (i9 : PySem.W.isFn K (.ref f9) = true)
    (l9 : K.lookup f9 = some ⟨oc9, od9, .func (PySem.W.fnOf "_untold_backs" "House._untold_backs" (defArgs s_House__untold_backs) (defBody s_House__untold_backs) (defScope s_House__untold_backs) .none kV9 dc9 pm9 an9 cd9 ct9), sl9⟩) (c9 : PySem.W.codeIn K cd9 "House._untold_backs" = true) (k9 : PySem.W.keepIn K (.ref f9) = true)
    {od10 an10 : Option Addr} {sl10 : Array (Option Value)} {oc10 kV10 dc10 pm10 cd10 ct10 : Value} {f10 : Addr}
    (a10 : PySem.W.findIn K (.ref C0) "letters" = some (some (.ref f10))) (i10 : PySem.W.isFn K (.ref f10) = true)
    (l10 : K.lookup f10 = some ⟨oc10, od10, .func (PySem.W.fnOf "letters" "House.letters" (defArgs s_House_letters) (defBody s_House_letters) (defScope s_House_letters) .none kV10 dc10 pm10 an10 cd10 ct10), sl10⟩) (c10 : PySem.W.codeIn K cd10 "House.letters" = true) (k10 : PySem.W.keepIn K (.ref f10) = true)
    {od11 an11 : Option Addr} {sl11 : Array (Option Value)} {oc11 kV11 dc11 pm11 cd11 ct11 : Value} {f11 : Addr}
    (a11 : PySem.W.findIn K (.ref C0) "day" = some (some (.ref f11))) (i11 : PySem.W.isFn K (.ref f11) = true)
    (l11 : K.lookup f11 = some ⟨oc11, od11, .func (PySem.W.fnOf "day" "House.day" (defArgs s_House_day) (defBody s_House_day) (defScope s_House_day) .none kV11 dc11 pm11 an11 cd11 ct11), sl11⟩) (c11 : PySem.W.codeIn K cd11 "House.day" = true) (k11 : PySem.W.keepIn K (.ref f11) = true)
    {od12 an12 : Option Addr} {sl12 : Array (Option Value)} {oc12 kV12 dc12 pm12 cd12 ct12 : Value} {f12 : Addr}
    (a12 : PySem.W.nsIn K mainGlobals "_law_same" = some (some (.ref f12)))
    (l12 : K.lookup f12 = some ⟨oc12, od12, .func (PySem.W.fnOf "_law_same" "_law_same" (defArgs s__law_same) (defBody s__law_same) (defScope s__law_same) .none kV12 dc12 pm12 an12 cd12 ct12), sl12⟩) (c12 : PySem.W.codeIn K cd12 "_law_same" = true) (k12 : PySem.W.keepIn K (.ref f12) = true)
    {od13 an13 : Option Addr} {sl13 : Array (Option Value)} {oc13 kV13 dc13 pm13 cd13 ct13 : Value} {f13 : Addr}
    (a13 : PySem.W.findIn K (.ref C0) "copies" = some (some (.ref f13))) (i13 : PySem.W.isFn K (.ref f13) = true)
    (l13 : K.lookup f13 = some ⟨oc13, od13, .func (PySem.W.fnOf "copies" "House.copies" (defArgs s_House_copies) (defBody s_House_copies) (defScope s_House_copies) .none kV13 dc13 pm13 an13 cd13 ct13), sl13⟩) (c13 : PySem.W.codeIn K cd13 "House.copies" = true) (k13 : PySem.W.keepIn K (.ref f13) = true)
    {od14 an14 : Option Addr} {sl14 : Array (Option Value)} {oc14 kV14 dc14 pm14 cd14 ct14 : Value} {f14 : Addr}
    (a14 : PySem.W.findIn K (.ref C0) "_take" = some (some (.ref f14))) (i14 : PySem.W.isFn K (.ref f14) = true)
    (l14 : K.lookup f14 = some ⟨oc14, od14, .func (PySem.W.fnOf "_take" "House._take" (defArgs s_House__take) (defBody s_House__take) (defScope s_House__take) .none kV14 dc14 pm14 an14 cd14 ct14), sl14⟩) (c14 : PySem.W.codeIn K cd14 "House._take" = true) (k14 : PySem.W.keepIn K (.ref f14) = true)
    {od15 an15 : Option Addr} {sl15 : Array (Option Value)} {oc15 kV15 dc15 pm15 cd15 ct15 : Value} {f15 : Addr}
    (a15 : PySem.W.findIn K (.ref C0) "write" = some (some (.ref f15))) (i15 : PySem.W.isFn K (.ref f15) = true)
    (l15 : K.lookup f15 = some ⟨oc15, od15, .func (PySem.W.fnOf "write" "House.write" (defArgs s_House_write) (defBody s_House_write) (defScope s_House_write) .none kV15 dc15 pm15 an15 cd15 ct15), sl15⟩) (c15 : PySem.W.codeIn K cd15 "House.write" = true) (k15 : PySem.W.keepIn K (.ref f15) = true)
    {od16 an16 : Option Addr} {sl16 : Array (Option Value)} {oc16 kV16 dc16 pm16 cd16 ct16 : Value} {f16 : Addr}
    (a16 : PySem.W.nsIn K mainGlobals "is_two" = some (some (.ref f16)))
    (l16 : K.lookup f16 = some ⟨oc16, od16, .func (PySem.W.fnOf "is_two" "is_two" (defArgs s_is_two) (defBody s_is_two) (defScope s_is_two) .none kV16 dc16 pm16 an16 cd16 ct16), sl16⟩) (c16 : PySem.W.codeIn K cd16 "is_two" = true) (k16 : PySem.W.keepIn K (.ref f16) = true)
    {od17 an17 : Option Addr} {sl17 : Array (Option Value)} {oc17 kV17 dc17 pm17 cd17 ct17 : Value} {f17 : Addr}
    (a17 : PySem.W.findIn K (.ref C0) "_is_own" = some (some (.ref f17))) (i17 : PySem.W.isFn K (.ref f17) = true)
    (l17 : K.lookup f17 = some ⟨oc17, od17, .func (PySem.W.fnOf "_is_own" "House._is_own" (defArgs s_House__is_own) (defBody s_House__is_own) (defScope s_House__is_own) .none kV17 dc17 pm17 an17 cd17 ct17), sl17⟩) (c17 : PySem.W.codeIn K cd17 "House._is_own" = true) (k17 : PySem.W.keepIn K (.ref f17) = true)
    {od18 an18 : Option Addr} {sl18 : Array (Option Value)} {oc18 kV18 dc18 pm18 cd18 ct18 : Value} {f18 : Addr}
    (a18 : PySem.W.findIn K (.ref C0) "_drop" = some (some (.ref f18))) (i18 : PySem.W.isFn K (.ref f18) = true)
    (l18 : K.lookup f18 = some ⟨oc18, od18, .func (PySem.W.fnOf "_drop" "House._drop" (defArgs s_House__drop) (defBody s_House__drop) (defScope s_House__drop) .none kV18 dc18 pm18 an18 cd18 ct18), sl18⟩) (c18 : PySem.W.codeIn K cd18 "House._drop" = true) (k18 : PySem.W.keepIn K (.ref f18) = true)
    {od19 an19 : Option Addr} {sl19 : Array (Option Value)} {oc19 kV19 dc19 pm19 cd19 ct19 : Value} {f19 : Addr}
    (a19 : PySem.W.findIn K (.ref C0) "call_back" = some (some (.ref f19))) (i19 : PySem.W.isFn K (.ref f19) = true)
    (l19 : K.lookup f19 = some ⟨oc19, od19, .func (PySem.W.fnOf "call_back" "House.call_back" (defArgs s_House_call_back) (defBody s_House_call_back) (defScope s_House_call_back) .none kV19 dc19 pm19 an19 cd19 ct19), sl19⟩) (c19 : PySem.W.codeIn K cd19 "House.call_back" = true) (k19 : PySem.W.keepIn K (.ref f19) = true)
    {od20 an20 : Option Addr} {sl20 : Array (Option Value)} {oc20 kV20 dc20 pm20 cd20 ct20 : Value} {f20 : Addr}
    (a20 : PySem.W.nsIn K mainGlobals "law" = some (some (.ref f20)))
    (l20 : K.lookup f20 = some ⟨oc20, od20, .func (PySem.W.fnOf "law" "law" (defArgs s_law) (defBody s_law) (defScope s_law) .none kV20 dc20 pm20 an20 cd20 ct20), sl20⟩) (c20 : PySem.W.codeIn K cd20 "law" = true) (k20 : PySem.W.keepIn K (.ref f20) = true)
    (z_bool : PySem.W.nsIn K mainGlobals "bool" = some none)
    (z_dict : PySem.W.nsIn K mainGlobals "dict" = some none)
    (z_int : PySem.W.nsIn K mainGlobals "int" = some none)
    (z_isinstance : PySem.W.nsIn K mainGlobals "isinstance" = some none)
    (z_len : PySem.W.nsIn K mainGlobals "len" = some none)
    (z_list : PySem.W.nsIn K mainGlobals "list" = some none)
    (z_range : PySem.W.nsIn K mainGlobals "range" = some none)
    (z_sorted : PySem.W.nsIn K mainGlobals "sorted" = some none)
    (z_str : PySem.W.nsIn K mainGlobals "str" = some none)
    (z_tuple : PySem.W.nsIn K mainGlobals "tuple" = some none)
    {t_FEWEST_HOUSES : Tok} (y_FEWEST_HOUSES : PySem.W.nsIn K mainGlobals "FEWEST_HOUSES" = some (some (.int 2 t_FEWEST_HOUSES)))
    {t_LAST_DAY : Tok} (y_LAST_DAY : PySem.W.nsIn K mainGlobals "LAST_DAY" = some (some (.int 10000 t_LAST_DAY)))
    {t_LONGEST_LIFE : Tok} (y_LONGEST_LIFE : PySem.W.nsIn K mainGlobals "LONGEST_LIFE" = some (some (.int 30 t_LONGEST_LIFE)))
    {t_MOST_HOUSES : Tok} (y_MOST_HOUSES : PySem.W.nsIn K mainGlobals "MOST_HOUSES" = some (some (.int 8 t_MOST_HOUSES)))
    {t_MOST_WORTH : Tok} (y_MOST_WORTH : PySem.W.nsIn K mainGlobals "MOST_WORTH" = some (some (.int 999 t_MOST_WORTH)))
    {t_NEWS : Tok} (y_NEWS : PySem.W.nsIn K mainGlobals "NEWS" = some (some (.str "news" t_NEWS))) :
    ∃ fd : FuncData, (∀ (s : Shared) (v : Value), BindsTo s fd ⟨[v], []⟩ [("_law_script", v)]) ∧ ∀ base : Heap, K.In base → base.Ns mainGlobals mg → FnOk l.prog w K mg base CX0 7 fa fd ["_law_script"] (spAny K m_law) := by
  have e := hfa.symm.trans (PySem.W.mg_of X G a20)
  cases e
  have hno0 : ∀ m ∈ flds_House, NoAttr K C0 m := fun m hm => by
    simp only [flds_House, List.mem_cons, List.not_mem_nil, or_false] at hm
    rcases hm with rfl | rfl | rfl | rfl | rfl | rfl | rfl | rfl | rfl | rfl | rfl
    · exact n0_0
    · exact n0_1
    · exact n0_2
    · exact n0_3
    · exact n0_4
    · exact n0_5
    · exact n0_6
    · exact n0_7
    · exact n0_8
    · exact n0_9
    · exact n0_10
  have F0 := fun_mk (st := s__law_start) l0 c0 k0
  have b0 := F0.binds (ps := ["_law_script"]) fun _ _ _ _ _ _ us hl => match us, hl with | [_], _ => rfl
  have F1 := fun_mk (st := s__law_drawn) l1 c1 k1
  have b1 := F1.binds (ps := ["_law_state", "_law_many"]) fun _ _ _ _ _ _ us hl => match us, hl with | [_, _], _ => rfl
  have F2 := fun_mk (st := s_is_whole) l2 c2 k2
  have b2 := F2.binds (ps := ["value", "low", "high"]) fun _ _ _ _ _ _ us hl => match us, hl with | [_, _, _], _ => rfl
  have F3 := fun_mk (st := s_check_count) l3 c3 k3
  have b3 := F3.binds (ps := ["many"]) fun _ _ _ _ _ _ us hl => match us, hl with | [_], _ => rfl
  have F4 := fun_mk (st := s_check_house) l4 c4 k4
  have b4 := F4.binds (ps := ["house", "many"]) fun _ _ _ _ _ _ us hl => match us, hl with | [_, _], _ => rfl
  have F5 := fun_mk (st := s_House___init__) l5 c5 k5
  have b5 := F5.binds (ps := ["self", "number", "many"]) fun _ _ _ _ _ _ us hl => match us, hl with | [_, _, _], _ => rfl
  have F6 := fun_mk (st := s_House_notes) l6 c6 k6
  have b6 := F6.binds (ps := ["self"]) fun _ _ _ _ _ _ us hl => match us, hl with | [_], _ => rfl
  have F7 := fun_mk (st := s_House_came) l7 c7 k7
  have b7 := F7.binds (ps := ["self"]) fun _ _ _ _ _ _ us hl => match us, hl with | [_], _ => rfl
  have F8 := fun_mk (st := s_House__unsettled) l8 c8 k8
  have b8 := F8.binds (ps := ["self", "other"]) fun _ _ _ _ _ _ us hl => match us, hl with | [_, _], _ => rfl
  have F9 := fun_mk (st := s_House__untold_backs) l9 c9 k9
  have b9 := F9.binds (ps := ["self", "other"]) fun _ _ _ _ _ _ us hl => match us, hl with | [_, _], _ => rfl
  have F10 := fun_mk (st := s_House_letters) l10 c10 k10
  have b10 := F10.binds (ps := ["self"]) fun _ _ _ _ _ _ us hl => match us, hl with | [_], _ => rfl
  have F11 := fun_mk (st := s_House_day) l11 c11 k11
  have b11 := F11.binds (ps := ["self", "number"]) fun _ _ _ _ _ _ us hl => match us, hl with | [_, _], _ => rfl
  have F12 := fun_mk (st := s__law_same) l12 c12 k12
  have b12 := F12.binds (ps := ["_law_found", "_law_due"]) fun _ _ _ _ _ _ us hl => match us, hl with | [_, _], _ => rfl
  have F13 := fun_mk (st := s_House_copies) l13 c13 k13
  have b13 := F13.binds (ps := ["self"]) fun _ _ _ _ _ _ us hl => match us, hl with | [_], _ => rfl
  have F14 := fun_mk (st := s_House__take) l14 c14 k14
  have b14 := F14.binds (ps := ["self", "mark", "worth", "end"]) fun _ _ _ _ _ _ us hl => match us, hl with | [_, _, _, _], _ => rfl
  have F15 := fun_mk (st := s_House_write) l15 c15 k15
  have b15 := F15.binds (ps := ["self", "worth", "life"]) fun _ _ _ _ _ _ us hl => match us, hl with | [_, _, _], _ => rfl
  have F16 := fun_mk (st := s_is_two) l16 c16 k16
  have b16 := F16.binds (ps := ["value", "first", "second"]) fun _ _ _ _ _ _ us hl => match us, hl with | [_, _, _], _ => rfl
  have F17 := fun_mk (st := s_House__is_own) l17 c17 k17
  have b17 := F17.binds (ps := ["self", "mark"]) fun _ _ _ _ _ _ us hl => match us, hl with | [_, _], _ => rfl
  have F18 := fun_mk (st := s_House__drop) l18 c18 k18
  have b18 := F18.binds (ps := ["self", "mark"]) fun _ _ _ _ _ _ us hl => match us, hl with | [_, _], _ => rfl
  have F19 := fun_mk (st := s_House_call_back) l19 c19 k19
  have b19 := F19.binds (ps := ["self", "mark"]) fun _ _ _ _ _ _ us hl => match us, hl with | [_, _], _ => rfl
  have F20 := fun_mk (st := s_law) l20 c20 k20
  have b20 := F20.binds (ps := ["_law_script"]) fun _ _ _ _ _ _ us hl => match us, hl with | [_], _ => rfl
  have T : Top K mg C0 := ⟨PySem.W.mg_none_of X G z_bool, PySem.W.mg_none_of X G z_dict, PySem.W.mg_none_of X G z_int, PySem.W.mg_none_of X G z_isinstance, PySem.W.mg_none_of X G z_len, PySem.W.mg_none_of X G z_list, PySem.W.mg_none_of X G z_range, PySem.W.mg_none_of X G z_sorted, PySem.W.mg_none_of X G z_str, PySem.W.mg_none_of X G z_tuple, ⟨_, PySem.W.mg_of X G y_FEWEST_HOUSES⟩, ⟨_, PySem.W.mg_of X G y_LAST_DAY⟩, ⟨_, PySem.W.mg_of X G y_LONGEST_LIFE⟩, ⟨_, PySem.W.mg_of X G y_MOST_HOUSES⟩, ⟨_, PySem.W.mg_of X G y_MOST_WORTH⟩, ⟨_, PySem.W.mg_of X G y_NEWS⟩, ⟨⟨pg0, hd0, po0, sa0⟩, hno0, show flds_House.Nodup by decide +kernel, show flds_House.length < 100 by decide +kernel⟩, PySem.W.mg_of X G aC0, ⟨_, _, F0, PySem.W.mg_of X G a0, b0⟩, ⟨_, _, F1, PySem.W.mg_of X G a1, b1⟩, ⟨_, _, F2, PySem.W.mg_of X G a2, b2⟩, ⟨_, _, F3, PySem.W.mg_of X G a3, b3⟩, ⟨_, _, F4, PySem.W.mg_of X G a4, b4⟩, ⟨_, _, F5, ⟨mk0, a5, i5, kC0⟩, b5⟩, ⟨_, _, F6, ⟨a6, i6, k6⟩, b6⟩, ⟨_, _, F7, ⟨a7, i7, k7⟩, b7⟩, ⟨_, _, F8, ⟨a8, i8, k8⟩, b8⟩, ⟨_, _, F9, ⟨a9, i9, k9⟩, b9⟩, ⟨_, _, F10, ⟨a10, i10, k10⟩, b10⟩, ⟨_, _, F11, ⟨a11, i11, k11⟩, b11⟩, ⟨_, _, F12, PySem.W.mg_of X G a12, b12⟩, ⟨_, _, F13, ⟨a13, i13, k13⟩, b13⟩, ⟨_, _, F14, ⟨a14, i14, k14⟩, b14⟩, ⟨_, _, F15, ⟨a15, i15, k15⟩, b15⟩, ⟨_, _, F16, PySem.W.mg_of X G a16, b16⟩, ⟨_, _, F17, ⟨a17, i17, k17⟩, b17⟩, ⟨_, _, F18, ⟨a18, i18, k18⟩, b18⟩, ⟨_, _, F19, ⟨a19, i19, k19⟩, b19⟩, ⟨_, _, F20, PySem.W.mg_of X G a20, b20⟩⟩
  refine ⟨PySem.W.fnOf "law" "law" (defArgs s_law) (defBody s_law) (defScope s_law) .none kV20 dc20 pm20 an20 cd20 ct20, fun s v => .of_eq rfl, fun base _ _ => ?_⟩
  exact (d_law_at F20 T).any
end K02
set_option Elab.async false
set_option linter.all false
set_option maxRecDepth 100000
set_option maxHeartbeats 4000000
namespace K02
open PySem L2 EE LW
abbrev Nt := Nat × Int × Int
def mk (me : Int) (k : Nat) : EV := .tup [.int me, .int (k : Int)]
def key (me : Int) (k : Nat) : List Key := [.inl me, .inl (k : Int)]
def nv (t : Nt) : EV := .tup [.int t.2.1, .int t.2.2]
def tv (me : Int) (T : List Nt) : List (EV × EV) := T.map fun t => (mk me t.1, nv t)
def cv (me : Int) (l : List Nat) : List (EV × EV) := l.map fun k => (mk me k, .bl true)
theorem tkey_mk (me : Int) (k : Nat) : tkeyOf (mk me k) = some (key me k) := rfl
theorem key_inj {me : Int} {j k : Nat} (h : key me j = key me k) : j = k := by
  unfold key at h
  simp only [List.cons.injEq, Sum.inl.injEq, true_and, and_true] at h
  omega
theorem key_dec (me : Int) (j k : Nat) : decide (some (key me j) = some (key me k)) = decide (j = k) := by
  by_cases h : j = k
  · subst h; simp
  · rw [decide_eq_false h, decide_eq_false]
    intro z
    exact h (key_inj (Option.some.inj z))
theorem dval_tv (me : Int) (T : List Nt) (k : Nat) : dval tkeyOf (tv me T) (key me k) = (T.find? fun t => decide (t.1 = k)).map nv := by
  unfold dval tv
  induction T with
  | nil => rfl
  | cons t T ih =>
    rw [List.map_cons]
    by_cases h : t.1 = k
    · rw [List.find?_cons_of_pos (by simp [tkey_mk, h]), List.find?_cons_of_pos (by simpa using h)]
      rfl
    · have h1 : ¬ (decide (tkeyOf (mk me t.1) = some (key me k)) = true) := by
        rw [tkey_mk, key_dec]
        simpa using h
      rw [List.find?_cons_of_neg (a := (mk me t.1, nv t)) h1, List.find?_cons_of_neg (by simpa using h)]
      exact ih
theorem dval_cv (me : Int) (l : List Nat) (k : Nat) (hk : k ∉ l) : dval tkeyOf (cv me l) (key me k) = none := by
  unfold dval cv
  rw [Option.map_eq_none_iff, List.find?_eq_none]
  intro p hp
  obtain ⟨j, hj, rfl⟩ := List.mem_map.mp hp
  rw [tkey_mk, key_dec]
  simp only [decide_eq_true_eq]
  intro z
  exact hk (z ▸ hj)
theorem dput_new {f : EV → Option (List Key)} {kvs : List (EV × EV)} {k : List Key} {x v : EV} (h : dval f kvs k = none) : dput f kvs k x v = kvs ++ [(x, v)] := by
  unfold dput
  rw [if_neg]
  intro z
  rw [List.any_eq_true] at z
  obtain ⟨p, h1, h2⟩ := z
  unfold dval at h
  rw [Option.map_eq_none_iff, List.find?_eq_none] at h
  exact h p h1 h2
theorem put_cv (me : Int) (l : List Nat) (k : Nat) (hk : k ∉ l) : dputE true (cv me l) (mk me k) (.bl true) = some (cv me (l ++ [k])) := by
  have e : dputE true (cv me l) (mk me k) (.bl true) = (tkeyOf (mk me k)).map fun q => dput tkeyOf (cv me l) q (mk me k) (.bl true) := rfl
  rw [e, tkey_mk, Option.map_some, dput_new (dval_cv me l k hk)]
  unfold cv
  rw [List.map_append]
  rfl
theorem put_tv (me : Int) (T : List Nt) (k : Nat) (a b : Int) (hk : ∀ t ∈ T, t.1 ≠ k) : dputE true (tv me T) (mk me k) (.tup [.int a, .int b]) = some (tv me (T ++ [(k, a, b)])) := by
  have e : dputE true (tv me T) (mk me k) (.tup [.int a, .int b]) = (tkeyOf (mk me k)).map fun q => dput tkeyOf (tv me T) q (mk me k) (.tup [.int a, .int b]) := rfl
  have h : dval tkeyOf (tv me T) (key me k) = none := by
    rw [dval_tv, Option.map_eq_none_iff, List.find?_eq_none]
    intro t ht
    simpa using hk t ht
  rw [e, tkey_mk, Option.map_some, dput_new h]
  unfold tv
  rw [List.map_append]
  rfl
theorem drop_tv (me : Int) (T : List Nt) (k : Nat) : ddrop tkeyOf (tv me T) (key me k) = tv me (T.filter fun t => decide (t.1 ≠ k)) := by
  unfold ddrop tv
  induction T with
  | nil => rfl
  | cons t T ih =>
    rw [List.map_cons]
    by_cases h : t.1 = k
    · rw [List.filter_cons_of_neg (by simp [tkey_mk, h]), List.filter_cons_of_neg (by simpa using h)]
      exact ih
    · have h1 : (decide (tkeyOf (mk me t.1) ≠ some (key me k))) = true := by
        rw [tkey_mk, decide_eq_true_eq]
        intro z
        exact h (key_inj (Option.some.inj z))
      rw [List.filter_cons_of_pos (a := (mk me t.1, nv t)) h1, List.filter_cons_of_pos (by simpa using h), List.map_cons, ih]
theorem get_tv (me : Int) (T : List Nt) (k : Nat) : dgetE true (tv me T) (mk me k) = some ((T.find? fun t => decide (t.1 = k)).map nv) := by
  show (tkeyOf (mk me k)).map _ = _
  rw [tkey_mk, Option.map_some, dval_tv]
def Asc (T : List Nt) : Prop := T.Pairwise fun a b => a.1 < b.1
theorem find_at {T : List Nt} (h : Asc T) {i : Nat} {t : Nt} (e : T[i]? = some t) : (T.find? fun z => decide (z.1 = t.1)) = some t := by
  induction T generalizing i with
  | nil => simp at e
  | cons z T ih =>
    cases i with
    | zero =>
      simp only [List.getElem?_cons_zero, Option.some.injEq] at e
      subst e
      rw [List.find?_cons_of_pos (by simp)]
    | succ i =>
      simp only [List.getElem?_cons_succ] at e
      have h1 := List.pairwise_cons.mp h
      have := h1.1 t (List.mem_of_getElem? e)
      rw [List.find?_cons_of_neg (by simp; omega)]
      exact ih h1.2 e
theorem keys_tv (me : Int) (T : List Nt) : pairsE ((tv me T).map (·.1)) = some (T.map fun t => (me, (t.1 : Int))) := by
  have : (tv me T).map (·.1) = (T.map fun t => (me, (t.1 : Int))).map pairE := by
    unfold tv
    rw [List.map_map, List.map_map]
    rfl
  rw [this, pairsE_map]
theorem sort_tv {me : Int} {T : List Nt} (h : Asc T) : psort (T.map fun t => (me, (t.1 : Int))) = T.map fun t => (me, (t.1 : Int)) := by
  refine (psort_eq (List.Perm.refl _) ?_).symm
  rw [List.pairwise_map]
  refine h.imp fun {a b} hab => ?_
  rw [lexLe_iff]
  exact .inr ⟨rfl, by simp only; omega⟩
theorem keys_cv (me : Int) (l : List Nat) : (cv me l).map (·.1) = l.map (mk me) := by
  unfold cv
  rw [List.map_map]
  rfl
theorem asc_filter {T : List Nt} (h : Asc T) (p : Nt → Bool) : Asc (T.filter p) := List.Pairwise.filter p h
theorem asc_snoc {T : List Nt} {n : Nat} {a b : Int} (h : Asc T) (hn : ∀ t ∈ T, t.1 < n) : Asc (T ++ [(n, a, b)]) := by
  refine List.pairwise_append.mpr ⟨h, by simp, fun x hx y hy => ?_⟩
  rw [List.mem_singleton.mp hy]
  exact hn x hx
theorem fold_tv {me : Int} : ∀ (U T : List Nt), Asc (T ++ U) → dfoldT (tv me T) (U.map fun t => .tup [mk me t.1, nv t]) = some (tv me (T ++ U))
  | [], T, _ => by rw [List.append_nil]; rfl
  | u :: U, T, h => by
    have hk : ∀ t ∈ T, t.1 ≠ u.1 := fun t ht => by
      have := (List.pairwise_append.mp h).2.2 t ht u (by simp)
      omega
    rw [List.map_cons]
    unfold dfoldT
    have hp := put_tv me T u.1 u.2.1 u.2.2 hk
    simp only [nv, hp]
    rw [show T ++ u :: U = (T ++ [u]) ++ U by simp] at h ⊢
    exact fold_tv U (T ++ [u]) h
end K02
set_option Elab.async false
set_option linter.all false
set_option maxRecDepth 100000
set_option maxHeartbeats 4000000
namespace K02
open PySem L2 EE LW
abbrev hf (me many day : Int) (n : Nat) (td cd th bk se aw : Nat) : List (Option EV) :=
  [some (.int me), some (.int many), some (.int day), some (.int n), some (.int 0), some (.ref td), some (.ref cd), some (.ref th), some (.ref bk), some (.ref se), some (.ref aw)]
structure Ho (me many : Int) (h : EH) (o : Nat) (day : Int) (n : Nat) (T : List Nt) (B : List (EV × EV)) (td cd th bk se aw : Nat) : Prop where
  ob : h[o]? = some (.obj 0 (hf me many day n td cd th bk se aw))
  tied : h[td]? = some (.dic false [])
  came : h[cd]? = some (.dic true (cv me (List.range n)))
  there : h[th]? = some (.dic true (tv me T))
  back : h[bk]? = some (.dic true B)
  d1 : cd ≠ th
  d2 : cd ≠ bk
  d3 : th ≠ bk
section
variable {me many day : Int} {h : EH} {o n : Nat} {T : List Nt} {B : List (EV × EV)} {td cd th bk se aw : Nat}
@[simp] theorem f_addI (i j : Int) (h : EH) : fAddI (.int i) (.int j) h = .ok (.int (i + j)) h := rfl
theorem ne_kind {h : EH} {a b : Nat} {x y : EO} (ha : h[a]? = some x) (hb : h[b]? = some y) (hxy : x ≠ y) : a ≠ b := fun e => by
  subst e
  rw [ha] at hb
  exact hxy (Option.some.inj hb)
theorem set_at {h : EH} {a b : Nat} {x y : EO} (ha : h[a]? = some x) (hne : b ≠ a) : (h.set b y)[a]? = some x := by
  rw [List.getElem?_set_ne hne]
  exact ha
theorem set_self {h : EH} {a : Nat} {x y : EO} (ha : h[a]? = some x) : (h.set a y)[a]? = some y := List.getElem?_set_self (List.getElem?_eq_some_iff.mp ha).1
theorem take_ok {fs : List (Option EV)} {l : List Nat} {k : Nat} {w e : Int} (ob : h[o]? = some (.obj 0 fs)) (f6 : fs[6]? = some (some (.ref cd))) (f7 : fs[7]? = some (some (.ref th))) (hc : h[cd]? = some (.dic true (cv me l))) (ht : h[th]? = some (.dic true (tv me T)))
    (hk : k ∉ l) (hT : ∀ t ∈ T, t.1 ≠ k) (s1 : l.length < 100000) (s2 : T.length < 100000) (hd : cd ≠ th) :
    m_House__take [.ref o, mk me k, .int w, .int e] h = .ok .non ((h.set cd (.dic true (cv me (l ++ [k])))).set th (.dic true (tv me (T ++ [(k, w, e)])))) := by
  have g6 : kFld 0 6 (.ref o) h = .ok (.ref cd) h := kFld_ref ob f6
  have nco : cd ≠ o := ne_kind hc ob (by intro z; cases z)
  have p1 := s_dic (x := mk me k) (v := .bl true) hc (put_cv me l k hk) (by unfold cv; rw [List.length_map]; exact s1)
  have ob1 := set_at (y := .dic true (cv me (l ++ [k]))) ob nco
  have g7 : kFld 0 7 (.ref o) (h.set cd (.dic true (cv me (l ++ [k])))) = .ok (.ref th) _ := kFld_ref ob1 f7
  have p2 := s_dic (x := mk me k) (set_at (y := .dic true (cv me (l ++ [k]))) ht hd) (put_tv me T k w e hT) (by unfold tv; rw [List.length_map]; exact s2)
  rw [u_House__take]
  simp [b_House__take, g6, p1, g7, p2]
theorem Fr.set2 {X : List Nat} {h : EH} {a b : Nat} {x y : EO} (ha : a ∈ X) (hb : b ∈ X) : Fr X h ((h.set a x).set b y) := ((Fr.refl X h).set (.inl ha)).set (.inl hb)
theorem write_ok (H : Ho me many h o day n T B td cd th bk se aw) {w l : Int} (w0 : 0 ≤ w) (w1 : w ≤ 999) (l0 : 1 ≤ l) (l1 : l ≤ 30) (hT : ∀ t ∈ T, t.1 < n) (s1 : n < 100000) (s2 : T.length < 100000) :
    Tri (m_House_write [.ref o, .int w, .int l] h) fun v h' => v = mk me n ∧ Ho me many h' o day (n + 1) (T ++ [(n, w, day + l)]) B td cd th bk se aw ∧ Fr [o, cd, th] h h' := by
  have g0 : kFld 0 0 (.ref o) h = .ok (.int me) h := kFld_ref H.ob rfl
  have g3 : kFld 0 3 (.ref o) h = .ok (.int n) h := kFld_ref H.ob rfl
  have a3 : kAugF 0 3 fAddI (dC (.int 1)) [some (.ref o), some (.int w), some (.int l), some (mk me n)] (.ref o) h = _ := kAugF_ref H.ob rfl
  have b3 : kAugF3 0 3 o [some (.ref o), some (.int w), some (.int l), some (mk me n)] (.int ((n : Int) + 1)) h = _ := kAugF3_ref H.ob
  have nco : cd ≠ o := ne_kind H.came H.ob (by intro z; cases z)
  have nto : th ≠ o := ne_kind H.there H.ob (by intro z; cases z)
  have nbo : bk ≠ o := ne_kind H.back H.ob (by intro z; cases z)
  have ntd : td ≠ o := ne_kind H.tied H.ob (by intro z; cases z)
  have ntc : td ≠ cd := ne_kind H.tied H.came (by intro z; cases z)
  have ntt : td ≠ th := ne_kind H.tied H.there (by intro z; cases z)
  generalize ho1 : EO.obj 0 ((hf me many day n td cd th bk se aw).set 3 (some (.int ((n : Int) + 1)))) = o1 at b3
  have ho1' : EO.obj 0 (hf me many day (n + 1) td cd th bk se aw) = o1 := by
    rw [← ho1]
    simp [hf]
  have ob1 : (h.set o o1)[o]? = some (.obj 0 (hf me many day (n + 1) td cd th bk se aw)) := by rw [set_self H.ob, ho1']
  have m1 : ∀ es, kMeth 0 m_House__take (dCons (dVar 3) (dCons (dVar 1) (dCons (dOp fAdd (dFld 0 2 (dVar 0)) (dVar 2)) dNil))) es (.ref o) (h.set o o1) = _ := fun es => kMeth_ref ob1
  have g2 : kFld 0 2 (.ref o) (h.set o o1) = .ok (.int day) _ := kFld_ref ob1 rfl
  have tk := take_ok (k := n) (w := w) (e := day + l) ob1 rfl rfl (set_at H.came nco.symm) (set_at H.there nto.symm) (by simp) (fun t ht => by have := hT t ht; omega) (by simpa using s1) s2 H.d1
  have mkn : EV.tup [.int me, .int (n : Int)] = mk me n := rfl
  rw [u_House_write]
  simp only [b_House_write]
  simp [whole, w0, w1, l0, l1, g0, g3, mkn, a3, b3, f_addI, m1, g2, tk]
  refine ⟨⟨?_, ?_, ?_, ?_, ?_, H.d1, H.d2, H.d3⟩, ?_⟩
  · exact set_at (set_at ob1 nco) nto
  · exact set_at (set_at (set_at H.tied ntd.symm) ntc.symm) ntt.symm
  · rw [List.range_succ]
    exact set_at (set_self (set_at H.came nco.symm)) H.d1.symm
  · exact set_self (set_at (set_at H.there nto.symm) H.d1)
  · exact set_at (set_at (set_at H.back nbo.symm) H.d2) H.d3
  · exact (((Fr.refl _ _).set (.inl (by simp))).set (.inl (by simp))).set (.inl (by simp))
end
end K02
set_option Elab.async false
set_option linter.all false
set_option maxRecDepth 100000
set_option maxHeartbeats 4000000
namespace K02
open PySem L2 EE LW
section
variable {me many day : Int} {h : EH} {o n : Nat} {T : List Nt} {B : List (EV × EV)} {td cd th bk se aw : Nat}
theorem find_mem {T : List Nt} {k : Nat} : (T.find? fun t => decide (t.1 = k)).isSome = (T.any fun t => decide (t.1 = k)) := by
  rw [Bool.eq_iff_iff, List.find?_isSome, List.any_eq_true]
theorem filter_none {T : List Nt} {k : Nat} (h : (T.find? fun t => decide (t.1 = k)) = none) : (T.filter fun t => !decide (t.1 = k)) = T := by
  rw [List.find?_eq_none] at h
  refine List.filter_eq_self.mpr fun t ht => ?_
  have := h t ht
  simpa using this
theorem dput_len (B : List (EV × EV)) (k : List Key) (x v : EV) : (dput tkeyOf B k x v).length ≤ B.length + 1 := by
  unfold dput
  split
  · rw [List.length_map]; omega
  · rw [List.length_append]; simp
def wo (T : List Nt) (k : Nat) : List Nt := T.filter fun t => !decide (t.1 = k)
theorem drop_ok (H : Ho me many h o day n T B td cd th bk se aw) {k : Nat} (sB : B.length < 100000) :
    Tri (m_House__drop [.ref o, mk me k] h) fun v h' => v = .non ∧ Fr [bk, th] h h' ∧ ∃ B', B'.length ≤ B.length + 1 ∧ Ho me many h' o day n (wo T k) B' td cd th bk se aw := by
  have g8 : kFld 0 8 (.ref o) h = .ok (.ref bk) h := kFld_ref H.ob rfl
  have nbo : bk ≠ o := ne_kind H.back H.ob (by intro z; cases z)
  have nto : th ≠ o := ne_kind H.there H.ob (by intro z; cases z)
  have ntb : td ≠ bk := ne_kind H.tied H.back (by intro z; cases z)
  have ntt : td ≠ th := ne_kind H.tied H.there (by intro z; cases z)
  have p1 := s_dic (x := mk me k) (v := .bl true) H.back (kvs' := dput tkeyOf B (key me k) (mk me k) (.bl true)) rfl sB
  have hlen := dput_len B (key me k) (mk me k) (.bl true)
  generalize dput tkeyOf B (key me k) (mk me k) (.bl true) = B' at p1 hlen
  generalize hh1 : h.set bk (.dic true B') = h1 at p1
  have f1 : Fr [bk, th] h h1 := by rw [← hh1]; exact (Fr.refl _ _).set (.inl (by simp))
  have H1 : Ho me many h1 o day n T B' td cd th bk se aw := by
    rw [← hh1]
    exact ⟨set_at H.ob nbo, set_at H.tied ntb.symm, set_at H.came H.d2.symm, set_at H.there H.d3.symm, set_self H.back, H.d1, H.d2, H.d3⟩
  have g7 : kFld 0 7 (.ref o) h1 = .ok (.ref th) h1 := kFld_ref H1.ob rfl
  have b7 : ∀ a es, kBMD mPopT a es (.ref th) h1 = _ := fun a es => kBMD_ref H1.there
  rw [u_House__drop]
  cases hf : (T.find? fun t => decide (t.1 = k)) with
  | none =>
    have pn := m_pop_no (x := mk me k) (z := .non) H1.there (tkey_mk me k) (by rw [dval_tv, hf]; rfl)
    simp only [b_House__drop]
    simp [g8, p1, g7, b7, pn]
    exact ⟨f1, B', hlen, by rw [wo, filter_none hf]; exact H1⟩
  | some t =>
    have pn := m_pop_yes (x := mk me k) (z := .non) (v := nv t) H1.there (tkey_mk me k) (by rw [dval_tv, hf]; rfl)
    rw [drop_tv] at pn
    simp only [b_House__drop]
    simp [g8, p1, g7, b7, pn]
    refine ⟨f1.set (.inl (by simp)), B', hlen, ?_⟩
    exact ⟨set_at H1.ob nto, set_at H1.tied ntt.symm, set_at H1.came H1.d1.symm, set_self H1.there, set_at H1.back H1.d3, H1.d1, H1.d2, H1.d3⟩
theorem own_ok (H : Ho me many h o day n T B td cd th bk se aw) {k : Nat} (hk : k < n) (hm : 0 ≤ me) : m_House__is_own [.ref o, mk me k] h = .ok (.bl true) h := by
  have g0 : kFld 0 0 (.ref o) h = .ok (.int me) h := kFld_ref H.ob rfl
  have g3 : kFld 0 3 (.ref o) h = .ok (.int n) h := kFld_ref H.ob rfl
  have h1 : (k : Int) ≤ (n : Int) - 1 := by omega
  rw [u_House__is_own]
  have e1 : fIx (.tup [.int me, .int (k : Int)]) (.int 0) h = .ok (.int me) h := f_ixT _ 0 rfl rfl
  simp only [b_House__is_own, mk]
  simp [g0, g3, two, h1, hm, e1]
theorem back_ok (H : Ho me many h o day n T B td cd th bk se aw) {k : Nat} (hk : k < n) (hm : 0 ≤ me) (sB : B.length < 100000) :
    Tri (m_House_call_back [.ref o, mk me k] h) fun v h' => v = .non ∧ Fr [bk, th] h h' ∧ ∃ B', B'.length ≤ B.length + 1 ∧ Ho me many h' o day n (wo T k) B' td cd th bk se aw := by
  have g7 : kFld 0 7 (.ref o) h = .ok (.ref th) h := kFld_ref H.ob rfl
  have m1 : ∀ fn a es, kMeth 0 fn a es (.ref o) h = _ := fun fn a es => kMeth_ref H.ob
  have hin := f_din (neg := false) (.inl H.there) (get_tv me T k)
  rw [u_House_call_back]
  simp only [b_House_call_back]
  cases hf : (T.find? fun t => decide (t.1 = k)) with
  | none =>
    rw [hf] at hin
    simp [m1, own_ok H hk hm, g7, hin]
    exact ⟨Fr.refl _ _, B, by omega, by rw [wo, filter_none hf]; exact H⟩
  | some t =>
    rw [hf] at hin
    simp [m1, own_ok H hk hm, g7, hin, tri_bind]
    exact (drop_ok H sB).mono fun v h' q => q.2
theorem came_ok (H : Ho me many h o day n T B td cd th bk se aw) : m_House_came [.ref o] h = .ok (.ref h.length) (h ++ [.lst ((List.range n).map (mk me))]) := by
  have g6 : kFld 0 6 (.ref o) h = .ok (.ref cd) h := kFld_ref H.ob rfl
  rw [u_House_came]
  simp [b_House_came, g6, f_keysT (.inl H.came), keys_cv]
theorem copies_ok (H : Ho me many h o day n T B td cd th bk se aw) : m_House_copies [.ref o] h = .ok (.int 0) h := by
  have g4 : kFld 0 4 (.ref o) h = .ok (.int 0) h := kFld_ref H.ob rfl
  rw [u_House_copies]
  simp [b_House_copies, g4]
theorem letters_ok (H : Ho me many h o day n T B td cd th bk se aw) {Q : EV → EH → Prop} (q : ∀ k h', mutAt h' k = some [] → Fr [] h h' → h.length ≤ k → Q (.ref k) h') : Tri (m_House_letters [.ref o] h) Q := by
  have g5 : kFld 0 5 (.ref o) (h ++ [.lst []]) = .ok (.ref td) _ := kFld_ref ((Fr.app [] h _).at H.ob (by simp)) rfl
  have s5 := f_sortD (l := []) (.inl ((Fr.app [] h [.lst []]).at H.tied (by simp))) rfl (by decide)
  rw [u_House_letters]
  simp only [b_House_letters]
  simp [g5, s5, tri_bind]
  have e0 : isort [] = [] := by
    have := isort_perm []
    simpa using this
  generalize hh1 : h ++ [EO.lst [], EO.lst (List.map EV.int (isort []))] = h1
  have l1 : lstAt h1 (h.length + 1) = some [] := by
    rw [← hh1, e0]
    exact lstAt_new2
  have l0 : mutAt h1 h.length = some [] := by
    rw [← hh1]
    refine mutAt_of ?_
    rw [List.getElem?_append_right (Nat.le_refl _), Nat.sub_self]
    rfl
  have f1 : Fr [] h h1 := by rw [← hh1]; exact Fr.app _ _ _
  rw [kItL_ref l1]
  simp
  refine tri_for (xs := []) (fun i es' h' => h' = h1 ∧ es' = [some (.ref o), some (.ref h.length), none, none, none]) ⟨rfl, rfl⟩ (fun i es' h' ⟨e, _⟩ => by subst e; exact l1) (fun i x es' h' K hx => by simp at hx) ?_
  rintro es' h' ⟨rfl, rfl⟩
  simp
  exact q _ _ l0 f1 (Nat.le_refl _)
end
end K02
set_option Elab.async false
set_option linter.all false
set_option maxRecDepth 100000
set_option maxHeartbeats 4000000
namespace K02
open PySem L2 EE LW
section
variable {me many day : Int} {h : EH} {o n : Nat} {T : List Nt} {B : List (EV × EV)} {td cd th bk se aw : Nat}
theorem notes_comp {es : ES} {j k d : Nat} {De : DE} {Q : EV → EH → Prop} (hj : j < es.length) (hd : ∀ h', Fr [] h h' → ∀ x, De ((wip es [j]).set j x) h' = .ok (.ref d) h') (dt : h[d]? = some (.dic true (tv me T))) (asc : Asc T) (hl : T.length < 50000)
    (lk : lstAt h k = some ((T.map fun t => (me, (t.1 : Int))).map pairE)) (q : ∀ r h', mutAt h' r = some (T.map fun t => .tup [mk me t.1, .int t.2.1]) → Fr [] h h' → h.length ≤ r → r + 1 = h'.length → Q (.ref r) h') :
    Tri (kLc (dName j) dYes (dTup (dCons (dVar j) (dCons (dOp fIx (dOp fDGet De (dVar j)) (dC (.int 0))) dNil))) [j] es ⟨some k, [], fun _ x => x⟩ h) Q := by
  refine tri_lcP (xs := (T.map fun t => (me, (t.1 : Int))).map pairE) (fun _ => true) (fun i => match T[i]? with
    | some t => .tup [mk me t.1, .int t.2.1]
    | none => .non) (by simpa using hl) (fun h' f => f.lst lk (by simp)) (fun i x h' K hx f hK => ?_) (fun i x h' K hx f _ hK => ?_) fun h' f => ?_
  · simp
    exact hK _ (Fr.refl _ _)
  · rw [List.map_map, List.getElem?_map] at hx
    obtain ⟨t, ht, rfl⟩ := Option.map_eq_some_iff.mp hx
    simp only [ht] at hK
    have e0 : ((wip es [j]).set j (some (pairE (me, (t.1 : Int)))))[j]? = some (some (mk me t.1)) := by
      rw [List.getElem?_set_self (by simpa [wip] using hj)]
      rfl
    have eg : dgetE true (tv me T) (mk me t.1) = some (some (nv t)) := by
      rw [get_tv, find_at asc ht]
      rfl
    have e1 := f_dget (.inl (f.at dt (by simp))) eg
    have e2 : fIx (nv t) (.int 0) h' = .ok (.int t.2.1) h' := f_ixT _ 0 rfl rfl
    simp [Function.comp, hd h' f, e0, e1, e2]
    exact hK _ (Fr.refl _ _)
  · rw [gvn_true]
    refine q _ _ ?_ (f.trans (Fr.app _ _ _)) f.1 (by simp)
    rw [mutAt_new]
    congr 1
    apply List.ext_getElem?
    intro i
    rw [List.getElem?_map, List.getElem?_map]
    simp only [List.length_map]
    by_cases hi : i < T.length
    · rw [List.getElem?_range hi, List.getElem?_eq_getElem hi]
      simp [List.getElem?_eq_getElem hi]
    · rw [List.getElem?_eq_none (by rw [List.length_range]; omega), List.getElem?_eq_none (by omega)]
      rfl
theorem notes_ok (H : Ho me many h o day n T B td cd th bk se aw) (asc : Asc T) (hl : T.length < 50000) {Q : EV → EH → Prop} (q : ∀ r h', mutAt h' r = some (T.map fun t => .tup [mk me t.1, .int t.2.1]) → Fr [] h h' → h.length ≤ r → r + 1 = h'.length → Q (.ref r) h') : Tri (m_House_notes [.ref o] h) Q := by
  have g7 : kFld 0 7 (.ref o) h = .ok (.ref th) h := kFld_ref H.ob rfl
  have s5 := f_sortT (.inl H.there) (keys_tv me T)
  rw [sort_tv asc] at s5
  rw [u_House_notes]
  simp only [b_House_notes]
  simp [g7, s5, tri_bind, -List.map_map]
  generalize hh1 : h ++ [EO.lst ((T.map fun t => (me, (t.1 : Int))).map pairE)] = h1
  have l1 : lstAt h1 h.length = some ((T.map fun t => (me, (t.1 : Int))).map pairE) := by rw [← hh1]; exact lstAt_new
  have f1 : Fr [] h h1 := by rw [← hh1]; exact Fr.app _ _ _
  rw [kItL_ref l1]
  simp
  refine notes_comp (T := T) (d := th) (by simp) (fun h' f x => ?_) (f1.at H.there (by simp)) asc hl l1 fun r h' a b c e => ?_
  · have g : kFld 0 7 (.ref o) h' = .ok (.ref th) h' := kFld_ref ((f1.trans f).at H.ob (by simp)) rfl
    simp [wip, g]
  · exact q r h' a (f1.trans b) (by have := f1.1; omega) e
def on (T : List Nt) (d : Int) : List Nt := T.filter fun t => decide (d < t.2.2)
theorem day_ok (H : Ho me many h o day n T B td cd th bk se aw) (asc : Asc T) (hl : T.length < 50000) {d : Int} (d0 : day + 1 ≤ d) (d1 : d ≤ 10000) :
    Tri (m_House_day [.ref o, .int d] h) fun v h' => v = .non ∧ Fr [o] h h' ∧ ∃ th', h.length ≤ th' ∧ Ho me many h' o d n (on T d) B td cd th' bk se aw := by
  have g2 : kFld 0 2 (.ref o) h = .ok (.int day) h := kFld_ref H.ob rfl
  have s2 : ∀ es, kSetF2 0 2 es (.int d) (.ref o) h = _ := fun es => kSetF2_ref H.ob
  have nco : cd ≠ o := ne_kind H.came H.ob (by intro z; cases z)
  have nto : th ≠ o := ne_kind H.there H.ob (by intro z; cases z)
  have nbo : bk ≠ o := ne_kind H.back H.ob (by intro z; cases z)
  have ntd : td ≠ o := ne_kind H.tied H.ob (by intro z; cases z)
  rw [u_House_day]
  simp only [b_House_day]
  simp [g2, whole, d0, d1, s2, tri_bind]
  generalize hh1 : h.set o (EO.obj 0 [some (.int me), some (.int many), some (.int d), some (.int n), some (.int 0), some (.ref td), some (.ref cd), some (.ref th), some (.ref bk), some (.ref se), some (.ref aw)]) = h1
  have H1 : Ho me many h1 o d n T B td cd th bk se aw := by
    rw [← hh1]
    exact ⟨set_self H.ob, set_at H.tied ntd.symm, set_at H.came nco.symm, set_at H.there nto.symm, set_at H.back nbo.symm, H.d1, H.d2, H.d3⟩
  have f1 : Fr [o] h h1 := by rw [← hh1]; exact (Fr.refl _ _).set (.inl (by simp))
  have g7 : kFld 0 7 (.ref o) h1 = .ok (.ref th) h1 := kFld_ref H1.ob rfl
  refine tri_lockE (hs := h1) (n := th) (by simp [g7]) H1.there ?_
  generalize hh2 : h1.set th (.lkd true (tv me T)) = h2
  have ob2 : h2[o]? = some (.obj 0 (hf me many d n td cd th bk se aw)) := by rw [← hh2]; exact set_at H1.ob nto
  have lk2 : h2[th]? = some (.lkd true (tv me T)) := by rw [← hh2]; exact set_self H1.there
  have g72 : kFld 0 7 (.ref o) h2 = .ok (.ref th) h2 := kFld_ref ob2 rfl
  simp [g72, kItIT_ref lk2, tri_bind]
  refine tri_dc (xs := (tv me T).map fun p => .tup [p.1, p.2]) (fun i acc h' => Fr [] h2 h' ∧ acc = tv me (on (T.take i) d)) ⟨Fr.refl _ _, rfl⟩ (fun i acc h' _ => rfl) (fun i x acc h' hx q => ?_) fun acc h' q => ?_
  · obtain ⟨f, rfl⟩ := q
    rw [List.getElem?_map] at hx
    obtain ⟨p, hp, rfl⟩ := Option.map_eq_some_iff.mp hx
    unfold tv at hp
    rw [List.getElem?_map] at hp
    obtain ⟨t, ht, rfl⟩ := Option.map_eq_some_iff.mp hp
    have hi := (List.getElem?_eq_some_iff.mp ht).1
    have e2 : fIx (nv t) (.int 1) h' = .ok (.int t.2.2) h' := f_ixT _ 1 rfl rfl
    have etake : T.take (i + 1) = T.take i ++ [t] := by
      rw [List.take_add_one, ht]
      rfl
    simp [wip, e2, tri_bind]
    by_cases hc : d < t.2.2
    · simp [hc]
      have hlen : (on (T.take i) d).length ≤ T.length := by
        have h1 := List.length_filter_le (fun t : Nt => decide (d < t.2.2)) (T.take i)
        have h2 : (T.take i).length ≤ T.length := by rw [List.length_take]; omega
        unfold on
        omega
      refine ⟨_, put_tv me (on (T.take i) d) t.1 t.2.1 t.2.2 (fun u hu => ?_), by unfold tv; rw [List.length_map]; omega, f, ?_⟩
      · have hu' := (List.mem_filter.mp hu).1
        obtain ⟨m, hm⟩ := List.mem_iff_getElem?.mp hu'
        rw [List.getElem?_take] at hm
        split at hm
        · rename_i hmi
          have := List.pairwise_iff_getElem.mp asc m i (by omega) hi hmi
          rw [(List.getElem?_eq_some_iff.mp hm).2, (List.getElem?_eq_some_iff.mp ht).2] at this
          omega
        · cases hm
      · rw [etake]
        unfold on
        rw [List.filter_append]
        simp [hc]
    · simp [hc]
      refine ⟨f, ?_⟩
      rw [etake]
      unfold on
      rw [List.filter_append]
      simp [hc]
  · obtain ⟨f, rfl⟩ := q
    have ef : T.take ((tv me T).map fun p => EV.tup [p.1, p.2]).length = T := by
      unfold tv
      rw [List.length_map, List.length_map, List.take_length]
    rw [ef]
    have f3 : Fr [] h2 (h' ++ [EO.dic true (tv me (on T d))]) := f.trans (Fr.app _ _ _)
    refine ⟨f3, ?_⟩
    have f3' : Fr [] (h1.set th (.lkd true (tv me T))) (h' ++ [EO.dic true (tv me (on T d))]) := by rw [hh2]; exact f3
    have f4 := lock_fr H1.there f3'
    have hlen2 : h2.length = h1.length := by rw [← hh2, List.length_set]
    have hlh : h1.length ≤ h'.length := by have := f.1; omega
    have htl := (List.getElem?_eq_some_iff.mp H1.there).1
    have hnew : ((h' ++ [EO.dic true (tv me (on T d))]).set th (EO.dic true (tv me T)))[h'.length]? = some (.dic true (tv me (on T d))) := by
      rw [List.getElem?_set_ne (by omega), List.getElem?_append_right (Nat.le_refl _), Nat.sub_self]
      rfl
    generalize (h' ++ [EO.dic true (tv me (on T d))]).set th (EO.dic true (tv me T)) = h5 at f4 hnew
    have ob5 := f4.at H1.ob (by simp)
    have s7 : ∀ es, kSetF2 0 7 es (.ref h'.length) (.ref o) h5 = _ := fun es => kSetF2_ref ob5
    simp [s7]
    have hol := (List.getElem?_eq_some_iff.mp H1.ob).1
    have hlh1 := f1.1
    refine ⟨(f1.trans (f4.weak (by simp))).set (.inl (by simp)), h'.length, by omega, ?_⟩
    have hcl := (List.getElem?_eq_some_iff.mp H1.came).1
    have hbl := (List.getElem?_eq_some_iff.mp H1.back).1
    exact ⟨set_self ob5, set_at (f4.at H1.tied (by simp)) ntd.symm, set_at (f4.at H1.came (by simp)) nco.symm, set_at hnew (by omega), set_at (f4.at H1.back (by simp)) nbo.symm, by omega, H1.d2, by omega⟩
end
end K02
set_option Elab.async false
set_option linter.all false
set_option maxRecDepth 100000
set_option maxHeartbeats 4000000
namespace K02
open PySem L2 EE LW
section
theorem kSetF2_new {i : Nat} {es : ES} {y : EV} {fs : List (Option EV)} {h t : EH} : kSetF2 0 i es y (.ref h.length) (h ++ .obj 0 fs :: t) = .ok (.nx es) (h ++ .obj 0 (fs.set i (some y)) :: t) := by
  rw [kSetF2_ref (fs := fs) (by rw [List.getElem?_append_right (Nat.le_refl _), Nat.sub_self]; rfl)]
  rw [List.set_append_right _ _ (Nat.le_refl _), Nat.sub_self, List.set_cons_zero]
theorem dicts_comp {es : ES} {j n : Nat} {h : EH} {Q : EV → EH → Prop} (hn : n < 50000) (q : ∀ r h', Fr [] h h' → Q (.ref r) h') : Tri (kLc (dName j) dYes (dNewD true) [j] es ⟨none, rng 0 n, fun _ x => x⟩ h) Q := by
  refine tri_lcJ (xs := rng 0 n) (fun i acc h' => Fr [] h h' ∧ acc.length = i ∧ i ≤ n) ⟨Fr.refl _ _, rfl, Nat.zero_le _⟩ (fun _ _ _ _ => rfl) (fun i acc h' q => by omega) (fun i x acc h' K hx q hK1 hK2 => ?_) fun acc h' q' => q _ _ (q'.1.trans (Fr.app _ _ _))
  have hi := (rng_at hx).1
  simp
  refine hK2 h' fun Ke hKe => ?_
  simp
  exact hKe _ _ ⟨q.1.trans (Fr.app _ _ _), by simp [q.2.1], hi⟩
theorem init_ok {me many : Int} {h : EH} (h0 : 0 ≤ me) (h1 : me < many) (m2 : 2 ≤ many) (m8 : many ≤ 8) :
    Tri (m_House___init__ [.ref h.length, .int me, .int many] (h ++ [.obj 0 (List.replicate 11 none)])) fun v h' => v = .non ∧ Fr [] h h' ∧ ∃ td cd th bk se aw, h.length < td ∧ h.length < cd ∧ h.length < th ∧ h.length < bk ∧ Ho me many h' h.length 0 0 [] [] td cd th bk se aw := by
  rw [u_House___init__]
  simp only [b_House___init__]
  simp [count _ _ m2 m8, house _ _ _ h0 h1, kSetF2_new, List.replicate, tri_bind, ap_kItR1 _ many (by omega) (by omega)]
  generalize hg : h ++ [EO.obj 0 [some (.int me), some (.int many), some (.int 0), some (.int 0), some (.int 0), some (.ref (h.length + 1)), some (.ref (h.length + 1 + 1)), some (.ref (h.length + 1 + 1 + 1)), some (.ref (h.length + 1 + 1 + 1 + 1)), none, none], .dic false [], .dic true [], .dic true [], .dic true []] = g
  have at_ : ∀ k x, ([EO.obj 0 [some (.int me), some (.int many), some (.int 0), some (.int 0), some (.int 0), some (.ref (h.length + 1)), some (.ref (h.length + 1 + 1)), some (.ref (h.length + 1 + 1 + 1)), some (.ref (h.length + 1 + 1 + 1 + 1)), none, none], .dic false [], .dic true [], .dic true [], .dic true []] : EH)[k]? = some x → g[h.length + k]? = some x := fun k x e => by
    rw [← hg, List.getElem?_append_right (by omega), Nat.add_sub_cancel_left]
    exact e
  have f1 : Fr [] h g := by rw [← hg]; exact Fr.app _ _ _
  have hgl : g.length = h.length + 5 := by rw [← hg]; simp
  have o0 := at_ 0 _ rfl
  have t0 := at_ 1 _ rfl
  have c0 := at_ 2 _ rfl
  have n0 := at_ 3 _ rfl
  have b0 := at_ 4 _ rfl
  refine dicts_comp (by omega) fun r g1 q1 => ?_
  have s9 : ∀ es, kSetF2 0 9 es (.ref r) (.ref h.length) g1 = _ := fun es => kSetF2_ref (q1.at o0 (by simp))
  simp [s9, tri_bind, ap_kItR1 _ many (by omega) (by omega)]
  generalize hg2 : g1.set h.length _ = g2
  have o2 : g2[h.length]? = some (.obj 0 [some (.int me), some (.int many), some (.int 0), some (.int 0), some (.int 0), some (.ref (h.length + 1)), some (.ref (h.length + 1 + 1)), some (.ref (h.length + 1 + 1 + 1)), some (.ref (h.length + 1 + 1 + 1 + 1)), some (.ref r), none]) := by rw [← hg2]; exact set_self (q1.at o0 (by simp))
  have f2 : ∀ k x, k ≠ h.length → g1[k]? = some x → g2[k]? = some x := fun k x hk e => by rw [← hg2]; exact set_at e (Ne.symm hk)
  have f12 : Fr [] h g2 := by rw [← hg2]; exact (f1.trans q1).set (.inr (Nat.le_refl _))
  refine dicts_comp (by omega) fun r2 g3 q3 => ?_
  have s10 : ∀ es, kSetF2 0 10 es (.ref r2) (.ref h.length) g3 = _ := fun es => kSetF2_ref (q3.at o2 (by simp))
  simp [s10]
  refine ⟨(f12.trans q3).set (.inr (Nat.le_refl _)), h.length + 1, by omega, h.length + 1 + 1, by omega, h.length + 1 + 1 + 1, by omega, h.length + 1 + 1 + 1 + 1, by omega, r, r2, ?_⟩
  have at3 : ∀ k x, k ≠ h.length → g[k]? = some x → (g3.set h.length (EO.obj 0 [some (EV.int me), some (EV.int many), some (EV.int 0), some (EV.int 0), some (EV.int 0), some (EV.ref (h.length + 1)), some (EV.ref (h.length + 1 + 1)), some (EV.ref (h.length + 1 + 1 + 1)), some (EV.ref (h.length + 1 + 1 + 1 + 1)), some (EV.ref r), some (EV.ref r2)]))[k]? = some x := fun k x hk e => set_at (q3.at (f2 k x hk (q1.at e (by simp))) (by simp)) (Ne.symm hk)
  exact ⟨set_self (q3.at o2 (by simp)), at3 _ _ (by omega) t0, at3 _ _ (by omega) c0, at3 _ _ (by omega) n0, at3 _ _ (by omega) b0, by omega, by omega, by omega⟩
end
end K02
set_option Elab.async false
set_option linter.all false
set_option maxRecDepth 100000
set_option maxHeartbeats 4000000
namespace K02
open PySem L2 EE LW
abbrev marks (me : Int) (n : Nat) : List EV := (List.range n).map (mk me)
theorem marks_prs (a n : Nat) : marks (a : Int) n = prs ((List.range n).map fun k => (a, k)) := by
  unfold prs
  rw [List.map_map]
  rfl
theorem f_eqMk {h : EH} {c b a n : Nat} (hc : lstAt h c = some (marks (a : Int) n)) (hb : lstAt h b = some []) : fEq (.ref c) (.ref b) h = .ok (.bl (decide (n = 0))) h := by
  rw [marks_prs] at hc
  show (Res.no).orElse _ = _
  have e1 := dat_lst hc (dat0s_prs _ _)
  have e2 := dat_lst hb (show dat0s (datF h 3) [] = some [] by simp [dat0s])
  simp only [orE_no, fEqD, e1, e2, shaped_prs, Bool.true_and]
  rw [if_pos (by rfl)]
  cases n with
  | zero => simp [PyData.eqv, PyData.eqvAll]
  | succ n => simp [List.range_succ_eq_map, PyData.eqv, PyData.eqvAll]
theorem Dts_map {h : EH} {α : Type} {D : α → PyData} {E : α → EV} (hd : ∀ t, Dt h (D t) (E t)) : ∀ l : List α, Dts h (l.map D) (l.map E)
  | [] => by simp [Dts]
  | t :: l => by
    simp only [List.map_cons, Dts]
    exact ⟨_, _, rfl, hd t, Dts_map hd l⟩
theorem sms_map {α : Type} {D : α → PyData} (hd : ∀ t, sm (D t) = true) : ∀ l : List α, sms (l.map D) = true
  | [] => by simp [sms]
  | t :: l => by simp [sms, hd t, sms_map hd l]
theorem depth_map {α : Type} {D : α → PyData} {m : Nat} (hd : ∀ t, (D t).depth ≤ m) : ∀ l : List α, PyData.depthAll (l.map D) ≤ m
  | [] => by simp [PyData.depthAll]
  | t :: l => by
    have h1 := hd t
    have h2 := depth_map hd l
    simp only [List.map_cons, PyData.depthAll]
    omega
def mD (me : Int) (k : Nat) : PyData := .tuple [.int me, .int (k : Int)]
def nD (me : Int) (t : Nt) : PyData := .tuple [mD me t.1, .int t.2.1]
theorem dt_mk {h : EH} (me : Int) (k : Nat) : Dt h (mD me k) (mk me k) := by
  simp [mD, mk, Dt, Dts]
theorem dt_nt {h : EH} (me : Int) (t : Nt) : Dt h (nD me t) (.tup [mk me t.1, .int t.2.1]) := by
  simp only [nD, Dt, Dts]
  refine ⟨_, rfl, _, _, rfl, dt_mk me t.1, _, _, rfl, rfl, rfl⟩
theorem tv_key {me : Int} {T : List Nt} {t : Nt} {i : Nat} (asc : Asc T) (ht : T[i]? = some t) : dgetE true (tv me T) (mk me t.1) = some (some (nv t)) := by
  rw [get_tv, find_at asc ht]
  rfl
theorem rebuild {x0 x1 x2 x3 x4 x7 x8 x9 x10 x11 x12 x13 x14 : Option EV} {me dy : Int} {d : Nat} {T : List Nt} {h : EH} {Q : EV → EH → Prop} (dt : h[d]? = some (.dic true (tv me T))) (asc : Asc T) (hl : T.length < 50000)
    (q : ∀ r h', lstAt h' r = some ((on T dy).map fun t => .tup [mk me t.1, nv t]) → Fr [] h h' → h.length ≤ r → Q (.ref r) h') :
    Tri (dLockE (dVar 6) (dLc (dItK (dVar 6)) (dName 12) (dB (dOp fGt (dOp fIx (dOp fDGet (dVar 6) (dVar 12)) (dC (.int 1))) (dVar 5))) (dTup (dCons (dVar 12) (dCons (dOp fDGet (dVar 6) (dVar 12)) dNil))) [12]) [x0, x1, x2, x3, x4, some (.int dy), some (.ref d), x7, x8, x9, x10, x11, x12, x13, x14] h) Q := by
  refine tri_lockE (hs := h) (n := d) (by simp) dt ?_
  generalize hh2 : h.set d (.lkd true (tv me T)) = h2
  have lk2 : h2[d]? = some (.lkd true (tv me T)) := by rw [← hh2]; exact set_self dt
  simp [kItK_ref lk2, tri_bind]
  refine tri_lcJ (xs := (tv me T).map (·.1)) (fun i acc h' => Fr [] h2 h' ∧ acc = (on (T.take i) dy).map (fun t => .tup [mk me t.1, nv t]) ∧ i ≤ T.length) ⟨Fr.refl _ _, rfl, Nat.zero_le _⟩ (fun _ _ _ _ => rfl) (fun i acc h' q => ?_) (fun i x acc h' K hx q hK1 hK2 => ?_) fun acc h' q' => ?_
  · rw [q.2.1, List.length_map]
    have h1 := List.length_filter_le (fun t : Nt => decide (dy < t.2.2)) (T.take i)
    have h2 : (T.take i).length ≤ T.length := by rw [List.length_take]; omega
    unfold on
    omega
  · obtain ⟨f, rfl, _⟩ := q
    rw [List.getElem?_map] at hx
    obtain ⟨p, hp, rfl⟩ := Option.map_eq_some_iff.mp hx
    unfold tv at hp
    rw [List.getElem?_map] at hp
    obtain ⟨t, ht, rfl⟩ := Option.map_eq_some_iff.mp hp
    have hi := (List.getElem?_eq_some_iff.mp ht).1
    have e2 : fIx (nv t) (.int 1) h' = .ok (.int t.2.2) h' := f_ixT _ 1 rfl rfl
    have e1 := f_dget (.inr (f.at lk2 (by simp))) (tv_key (me := me) asc ht)
    have etake : T.take (i + 1) = T.take i ++ [t] := by
      rw [List.take_add_one, ht]
      rfl
    simp [wip, e1, e2]
    by_cases hc : dy < t.2.2
    · simp [hc]
      refine hK2 h' fun Ke hKe => ?_
      simp [wip, e1]
      refine hKe _ _ ⟨f, ?_, hi⟩
      rw [etake]
      unfold on
      rw [List.filter_append]
      simp [hc]
    · simp [hc]
      refine hK1 h' ⟨f, ?_, hi⟩
      rw [etake]
      unfold on
      rw [List.filter_append]
      simp [hc]
  · obtain ⟨f, rfl, _⟩ := q'
    have ef : T.take ((tv me T).map (·.1)).length = T := by
      unfold tv
      rw [List.length_map, List.length_map, List.take_length]
    rw [ef]
    have f3 : Fr [] h2 (h' ++ [EO.lst ((on T dy).map fun t => .tup [mk me t.1, nv t])]) := f.trans (Fr.app _ _ _)
    refine ⟨f3, ?_⟩
    have f3' : Fr [] (h.set d (.lkd true (tv me T))) (h' ++ [EO.lst ((on T dy).map fun t => .tup [mk me t.1, nv t])]) := by rw [hh2]; exact f3
    have f4 := lock_fr dt f3'
    have hdl := (List.getElem?_eq_some_iff.mp dt).1
    have hlen2 : h2.length = h.length := by rw [← hh2, List.length_set]
    have := f.1
    refine q _ _ ?_ f4 (by omega)
    rw [lstAt_ne (by omega)]
    exact lstAt_new
structure LI (ns : List Int) (me many : Int) (h : EH) (s o d c : Nat) (dy : Int) (n : Nat) (T : List Nt) (B : List (EV × EV)) (td cd th bk se aw : Nat) : Prop where
  st : St ns h s
  ho : Ho me many h o dy n T B td cd th bk se aw
  nt : h[d]? = some (.dic true (tv me T))
  cm : h[c]? = some (.lst (marks me n))
  e1 : d ≠ cd
  e2 : d ≠ th
  e3 : d ≠ bk
  e4 : s ≠ c
  asc : Asc T
  lt : ∀ t ∈ T, t.1 < n
theorem nodup_len : ∀ (n : Nat) (W : List Nat), W.Nodup → (∀ k ∈ W, k < n) → W.length ≤ n
  | 0, W, _, h => by
    cases W with
    | nil => simp
    | cons k W => exact absurd (h k (by simp)) (by omega)
  | n + 1, W, hn, h => by
    by_cases hm : n ∈ W
    · have h1 := List.length_erase_of_mem hm
      have h2 := nodup_len n (W.erase n) (hn.erase n) (fun k hk => by
        have := (List.Nodup.mem_erase_iff hn).mp hk
        have := h k this.2
        omega)
      omega
    · have := nodup_len n W hn (fun k hk => by
        have h1 := h k hk
        have : k ≠ n := fun e => hm (e ▸ hk)
        omega)
      omega
theorem asc_len : ∀ {T : List Nt} {n : Nat}, Asc T → (∀ t ∈ T, t.1 < n) → T.length ≤ n := by
  intro T n h hn
  have h1 : (T.map (·.1)).Nodup := by
    rw [List.nodup_iff_pairwise_ne, List.pairwise_map]
    exact h.imp fun {a b} hab => Nat.ne_of_lt hab
  have h2 := nodup_len n (T.map (·.1)) h1 fun x hx => by
    obtain ⟨t, ht, rfl⟩ := List.mem_map.mp hx
    exact hn t ht
  rw [List.length_map] at h2
  exact h2
section
variable {ns : List Int} {me many : Int} {h h' : EH} {s o d c : Nat} {dy : Int} {n : Nat} {T : List Nt} {B : List (EV × EV)} {td cd th bk se aw : Nat}
theorem Ho.frX {X : List Nat} (H : Ho me many h o dy n T B td cd th bk se aw) (f : Fr X h h') (x1 : o ∉ X) (x2 : td ∉ X) (x3 : cd ∉ X) (x4 : th ∉ X) (x5 : bk ∉ X) : Ho me many h' o dy n T B td cd th bk se aw :=
  ⟨f.at H.ob x1, f.at H.tied x2, f.at H.came x3, f.at H.there x4, f.at H.back x5, H.d1, H.d2, H.d3⟩
theorem LI.fr (L : LI ns me many h s o d c dy n T B td cd th bk se aw) (f : Fr [] h h') : LI ns me many h' s o d c dy n T B td cd th bk se aw :=
  ⟨L.st.fr f, L.ho.frX f (by simp) (by simp) (by simp) (by simp) (by simp), f.at L.nt (by simp), f.at L.cm (by simp), L.e1, L.e2, L.e3, L.e4, L.asc, L.lt⟩
theorem LI.draw (L : LI ns me many h s o d c dy n T B td cd th bk se aw) (f : Fr [s] h h') (hs : St ns h' s) : LI ns me many h' s o d c dy n T B td cd th bk se aw := by
  obtain ⟨so, s1, ⟨_, _, _, s2, _⟩, _, _⟩ := L.st
  subst s2
  have a1 : s ≠ o := ne_kind s1 L.ho.ob (by intro z; cases z)
  have a2 : s ≠ td := ne_kind s1 L.ho.tied (by intro z; cases z)
  have a3 : s ≠ cd := ne_kind s1 L.ho.came (by intro z; cases z)
  have a4 : s ≠ th := ne_kind s1 L.ho.there (by intro z; cases z)
  have a5 : s ≠ bk := ne_kind s1 L.ho.back (by intro z; cases z)
  have a6 : s ≠ d := ne_kind s1 L.nt (by intro z; cases z)
  exact ⟨hs, L.ho.frX f (by simpa using a1.symm) (by simpa using a2.symm) (by simpa using a3.symm) (by simpa using a4.symm) (by simpa using a5.symm), f.at L.nt (by simpa using a6.symm), f.at L.cm (by simpa using L.e4.symm), L.e1, L.e2, L.e3, L.e4, L.asc, L.lt⟩
theorem St.frX {X : List Nat} (hs : St ns h s) (f : Fr X h h') (x1 : s ∉ X) (x2 : 0 ∉ X) : St ns h' s := by
  obtain ⟨so, s1, s2, s3, s4⟩ := hs
  exact ⟨so, f.at s1 x1, s2, f.at s3 x2, s4⟩
end
end K02
set_option Elab.async false
set_option linter.all false
set_option maxRecDepth 100000
set_option maxHeartbeats 4000000
namespace K02
open PySem L2 EE LW
def BR : DS :=
  (dIfS (dOr (dB (dOp fLt (dVar 9) (dC (.int 3)))) (dB (dOp fEq (dVar 7) (dLst dNil)))) (dSeq (dPar 10 11 (dCons (dCall LW.m__law_drawn (dCons (dVar 1) (dCons (dC (.int 1000)) dNil))) (dCons (dOp fAdd (dC (.int 1)) (dCall LW.m__law_drawn (dCons (dVar 1) (dCons (dOp fIx (dLst (dCons (dC (.int 3)) (dCons (dC (.int 30)) dNil))) (dCall LW.m__law_drawn (dCons (dVar 1) (dCons (dC (.int 2)) dNil)))) dNil)))) dNil)))
  (dSeq (dIfS (dNot (dB (dCall (LW.m__law_same 6) (dCons (dMeth 0 m_House_write (dVar 4) (dCons (dVar 10) (dCons (dVar 11) dNil))) (dCons (dTup (dCons (dVar 3) (dCons (dCB fLen (dCons (dVar 7) dNil)) dNil))) dNil))))) (dRet (dC (.bl false)))
  dNext)
  (dSeq (dAsg (dTup (dCons (dVar 10) (dCons (dOp fAdd (dVar 5) (dVar 11)) dNil))) (dGSub (dVar 6) (dTup (dCons (dVar 3) (dCons (dCB fLen (dCons (dVar 7) dNil)) dNil))) sDic))
  (dDrop (dBM mApp (dVar 7) (dCons (dTup (dCons (dVar 3) (dCons (dCB fLen (dCons (dVar 7) dNil)) dNil))) dNil))))))
  (dIfS (dB (dOp fEq (dVar 9) (dC (.int 3)))) (dSeq (dAsg (dOp fIx (dVar 7) (dCall LW.m__law_drawn (dCons (dVar 1) (dCons (dCB fLen (dCons (dVar 7) dNil)) dNil)))) (dName 12))
  (dSeq (dDrop (dBMD mPopT (dVar 6) (dCons (dVar 12) (dCons (dC .non) dNil))))
  (dIfS (dB (dOp (fIsN true) (dMeth 0 m_House_call_back (dVar 4) (dCons (dVar 12) dNil)) (dC .non))) (dRet (dC (.bl false)))
  dNext)))
  (dSeq (dAsg (dOp fAdd (dOp fAdd (dVar 5) (dC (.int 1))) (dCall LW.m__law_drawn (dCons (dVar 1) (dCons (dOp fIx (dLst (dCons (dC (.int 1)) (dCons (dC (.int 5)) (dCons (dC (.int 40)) dNil)))) (dCall LW.m__law_drawn (dCons (dVar 1) (dCons (dC (.int 3)) dNil)))) dNil)))) (dName 5))
  (dSeq (dDrop (dMeth 0 m_House_day (dVar 4) (dCons (dVar 5) dNil)))
  (dAsg (dCB fDictT (dCons (dLockE (dVar 6) (dLc (dItK (dVar 6)) (dName 12) (dB (dOp fGt (dOp fIx (dOp fDGet (dVar 6) (dVar 12)) (dC (.int 1))) (dVar 5))) (dTup (dCons (dVar 12) (dCons (dOp fDGet (dVar 6) (dVar 12)) dNil))) [12])) dNil)) (dName 6))))))
def RS : DS :=
  (dSeq (dAsg (dLst (dCons (dMeth 0 m_House_notes (dVar 4) dNil) (dCons (dMeth 0 m_House_came (dVar 4) dNil) (dCons (dMeth 0 m_House_letters (dVar 4) dNil) dNil)))) (dName 13))
  (dSeq (dIfS (dNot (dB (dCall (LW.m__law_same 6) (dCons (dVar 13) (dCons (dLst (dCons (dLc (dItL (dCB fSorted (dCons (dVar 6) dNil))) (dName 12) dYes (dTup (dCons (dVar 12) (dCons (dOp fIx (dOp fDGet (dVar 6) (dVar 12)) (dC (.int 0))) dNil))) [12]) (dCons (dVar 7) (dCons (dLst dNil) dNil)))) dNil))))) (dRet (dC (.bl false)))
  dNext)
  (dSeq (dFor (dItL (dVar 13)) (dName 14)
  (dDrop (dBM mApp (dVar 14) (dCons (dC (.int 0)) dNil))))
  (dIfS (dNot (dB (dCall (LW.m__law_same 6) (dCons (dMeth 0 m_House_copies (dVar 4) dNil) (dCons (dC (.int 0)) dNil))))) (dRet (dC (.bl false)))
  dNext))))
abbrev le (s : Nat) (many me : Int) (o : Nat) (dy : Int) (d c : Nat) (x8 x9 x10 x11 x12 x13 x14 : Option EV) : ES :=
  [some (.ref 0), some (.ref s), some (.int many), some (.int me), some (.ref o), some (.int dy), some (.ref d), some (.ref c), x8, x9, x10, x11, x12, x13, x14]
def PI (ns : List Int) (s : Nat) (many me : Int) (o : Nat) (i : Nat) (w9 : Option (Option EV)) (es : ES) (h : EH) : Prop :=
  ∃ dy d c n T B td cd th bk se aw x8 x9 x10 x11 x12 x13 x14, es = le s many me o dy d c x8 x9 x10 x11 x12 x13 x14 ∧ LI ns me many h s o d c dy n T B td cd th bk se aw ∧ n ≤ i ∧ B.length ≤ i ∧ 0 ≤ dy ∧ dy ≤ 40 * (i : Int) ∧ ∀ w, w9 = some w → x9 = w
section
variable {ns : List Int} {s o i : Nat} {many me : Int}
theorem pick2 {h : EH} {r : Int} {k : Nat} (hr : r = 0 ∨ r = 1) (hk : lstAt h k = some [.int 3, .int 30]) : ∃ v : Int, 1 ≤ v ∧ v ≤ 30 ∧ fIx (.ref k) (.int r) h = .ok (.int v) h := by
  rcases hr with rfl | rfl
  · exact ⟨3, by decide, by decide, f_ixL _ hk 0 rfl rfl⟩
  · exact ⟨30, by decide, by decide, f_ixL _ hk 1 rfl rfl⟩
theorem pick3 {h : EH} {r : Int} {k : Nat} (hr : r = 0 ∨ r = 1 ∨ r = 2) (hk : lstAt h k = some [.int 1, .int 5, .int 40]) : ∃ v : Int, 1 ≤ v ∧ v ≤ 40 ∧ fIx (.ref k) (.int r) h = .ok (.int v) h := by
  rcases hr with rfl | rfl | rfl
  · exact ⟨1, by decide, by decide, f_ixL _ hk 0 rfl rfl⟩
  · exact ⟨5, by decide, by decide, f_ixL _ hk 1 rfl rfl⟩
  · exact ⟨40, by decide, by decide, f_ixL _ hk 2 rfl rfl⟩
theorem rest_ok {es : ES} {h : EH} (hp : PI ns s many me o i none es h) (hi : i ≤ 60) : Tri (RS es h) fun f h' => ∃ es', f = .nx es' ∧ PI ns s many me o i none es' h' := by
  obtain ⟨dy, d, c, n, T, B, td, cd, th, bk, se, aw, x8, x9, x10, x11, x12, x13, x14, rfl, L, hn, hB, hd0, hd1, _⟩ := hp
  have hTl := asc_len L.asc L.lt
  have m1 : ∀ fn a es, kMeth 0 fn a es (.ref o) h = _ := fun fn a es => kMeth_ref L.ho.ob
  simp only [RS]
  simp [m1, tri_bind]
  refine notes_ok L.ho L.asc (by omega) fun r1 h1 l1 f1 le1 ln1 => ?_
  have L1 := L.fr f1
  have m2 : ∀ fn a es, kMeth 0 fn a es (.ref o) h1 = _ := fun fn a es => kMeth_ref L1.ho.ob
  simp [m2, tri_bind, came_ok L1.ho]
  have f2 : Fr [] h1 (h1 ++ [EO.lst (marks me n)]) := Fr.app _ _ _
  have l2 : mutAt (h1 ++ [EO.lst (marks me n)]) h1.length = some (marks me n) := mutAt_new
  have l1' := f2.mut l1 (by simp)
  have hl2 : (h1 ++ [EO.lst (marks me n)]).length = h1.length + 1 := by simp
  generalize h1 ++ [EO.lst (marks me n)] = h2 at *
  have L2 := L1.fr f2
  have m3 : ∀ fn a es, kMeth 0 fn a es (.ref o) h2 = _ := fun fn a es => kMeth_ref L2.ho.ob
  simp [m3, tri_bind]
  refine letters_ok L2.ho fun r3 h3 l3 f3 le3 => ?_
  have l1'' := f3.mut l1' (by simp)
  have l2'' := f3.mut l2 (by simp)
  have L3 := L2.fr f3
  have f0 : Fr [] h h3 := (f1.trans f2).trans f3
  generalize hh4 : h3 ++ [EO.lst [.ref r1, .ref h1.length, .ref r3]] = h4
  have f4 : Fr [] h3 h4 := by rw [← hh4]; exact Fr.app _ _ _
  have lF : lstAt h4 h3.length = some [.ref r1, .ref h1.length, .ref r3] := by rw [← hh4]; exact lstAt_new
  have b1 := f4.mut l1'' (by simp)
  have b2 := f4.mut l2'' (by simp)
  have b3 := f4.mut l3 (by simp)
  have L4 := L3.fr f4
  have hF : r3 < h3.length := mutAt_lt l3
  generalize h3.length = F at *
  have s5 := f_sortT (.inl L4.nt) (keys_tv me T)
  rw [sort_tv L4.asc] at s5
  simp [s5, tri_bind, -List.map_map]
  generalize hh5 : h4 ++ [EO.lst ((T.map fun t => (me, (t.1 : Int))).map pairE)] = h5
  have l5 : lstAt h5 h4.length = some ((T.map fun t => (me, (t.1 : Int))).map pairE) := by rw [← hh5]; exact lstAt_new
  have f5 : Fr [] h4 h5 := by rw [← hh5]; exact Fr.app _ _ _
  rw [kItL_ref l5]
  simp
  refine notes_comp (T := T) (d := d) (by simp) (fun h' f x => by simp [wip]) (f5.at L4.nt (by simp)) L.asc (by omega) l5 fun r5 h6 l6 f6 le6 ln6 => ?_
  have f7 : Fr [] h6 (h6 ++ [EO.lst [], EO.lst [.ref r5, .ref c, .ref h6.length]]) := Fr.app _ _ _
  have l7 : lstAt (h6 ++ [EO.lst [], EO.lst [.ref r5, .ref c, .ref h6.length]]) (h6.length + 1) = some [.ref r5, .ref c, .ref h6.length] := lstAt_new2
  have l7' : lstAt (h6 ++ [EO.lst [], EO.lst [.ref r5, .ref c, .ref h6.length]]) h6.length = some [] := by
    refine lstAt_of ?_
    rw [List.getElem?_append_right (Nat.le_refl _), Nat.sub_self]
    rfl
  generalize h6 ++ [EO.lst [], EO.lst [.ref r5, .ref c, .ref h6.length]] = h7 at *
  have f47 := (f5.trans f6).trans f7
  have L7 := L4.fr f47
  refine (same 6 (.list [.list (T.map (nD me)), .list ((List.range n).map (mD me)), .list []]) (.ref F) (.ref (h6.length + 1)) h7 ?_ ?_ ?_ ?_).mono ?_
  · simp only [Dt, Dts]
    refine ⟨F, _, rfl, f47.lst lF (by simp), _, _, rfl, ⟨r1, _, rfl, f47.lst (lst_mut b1) (by simp), Dts_map (dt_nt me) T⟩, _, _, rfl, ⟨h1.length, _, rfl, f47.lst (lst_mut b2) (by simp), Dts_map (dt_mk me) _⟩, _, _, rfl, ⟨r3, _, rfl, f47.lst (lst_mut b3) (by simp), rfl⟩, rfl⟩
  · simp only [Dt, Dts]
    refine ⟨_, _, rfl, l7, _, _, rfl, ⟨r5, _, rfl, f7.lst (lst_mut l6) (by simp), Dts_map (dt_nt me) T⟩, _, _, rfl, ⟨c, _, rfl, lstAt_of L7.cm, Dts_map (dt_mk me) _⟩, _, _, rfl, ⟨_, _, rfl, l7', rfl⟩, rfl⟩
  · have d1 := depth_map (D := nD me) (m := 2) (fun t => by simp [nD, mD, PyData.depth, PyData.depthAll]) T
    have d2 := depth_map (D := mD me) (m := 1) (fun t => by simp [mD, PyData.depth, PyData.depthAll]) (List.range n)
    simp only [PyData.depth, PyData.depthAll]
    omega
  · have a1 := sms_map (D := nD me) (fun t => by simp [nD, mD, sm, sms]) T
    have a2 := sms_map (D := mD me) (fun t => by simp [mD, sm, sms]) (List.range n)
    simp [sm, sms, a1, a2]
    omega
  rintro v h8 ⟨rfl, f8⟩
  simp
  have c1 := (f47.trans f8).mut b1 (by simp)
  have c2 := (f47.trans f8).mut b2 (by simp)
  have c3 := (f47.trans f8).mut b3 (by simp)
  have cF := (f47.trans f8).lst lF (by simp)
  have L8 := L7.fr f8
  have fh8 : Fr [] h h8 := (f0.trans f4).trans (f47.trans f8)
  rw [kItL_ref cF]
  simp [tri_bind]
  refine tri_for (xs := [.ref r1, .ref h1.length, .ref r3]) (fun j es h' => ∃ x14 A1 A2 A3, es = le s many me o dy d c x8 x9 x10 x11 x12 (some (.ref F)) x14 ∧ Fr [] h h' ∧ lstAt h' F = some [.ref r1, .ref h1.length, .ref r3] ∧ mutAt h' r1 = some A1 ∧ A1.length < 60000 + j ∧ mutAt h' h1.length = some A2 ∧ A2.length < 60000 + j ∧ mutAt h' r3 = some A3 ∧ A3.length < 60000 + j)
    ⟨_, _, _, _, rfl, fh8, cF, c1, by simp; omega, c2, by simp; omega, c3, by simp⟩ (fun j es h' ⟨_, _, _, _, _, _, q, _⟩ => q) ?_ ?_
  · rintro j x es h' K hx ⟨x14, A1, A2, A3, rfl, f9, q, p1, n1, p2, n2, p3, n3⟩ hK _ _ _
    have t1 : h.length ≤ r1 := le1
    have t2 : r1 < h1.length := by omega
    have t3 : h1.length < r3 := by omega
    match j, hx with
    | 0, hx =>
      simp only [List.getElem?_cons_zero, Option.some.injEq] at hx
      subst hx
      simp [tri_bind, kBM_ref _ _ _ (lst_mut p1), m_append p1 (by omega)]
      refine hK _ _ ⟨_, _, _, _, rfl, f9.set (.inr t1), by rw [lstAt_ne (by omega)]; exact q, mutAt_set (mutAt_lt p1), by simp; omega, by rw [mutAt_ne (by omega)]; exact p2, by omega, by rw [mutAt_ne (by omega)]; exact p3, by omega⟩
    | 1, hx =>
      simp only [List.getElem?_cons_succ, List.getElem?_cons_zero, Option.some.injEq] at hx
      subst hx
      simp [tri_bind, kBM_ref _ _ _ (lst_mut p2), m_append p2 (by omega)]
      refine hK _ _ ⟨_, _, _, _, rfl, f9.set (.inr (by omega)), by rw [lstAt_ne (by omega)]; exact q, by rw [mutAt_ne (by omega)]; exact p1, by omega, mutAt_set (mutAt_lt p2), by simp; omega, by rw [mutAt_ne (by omega)]; exact p3, by omega⟩
    | 2, hx =>
      simp only [List.getElem?_cons_succ, List.getElem?_cons_zero, Option.some.injEq] at hx
      subst hx
      simp [tri_bind, kBM_ref _ _ _ (lst_mut p3), m_append p3 (by omega)]
      refine hK _ _ ⟨_, _, _, _, rfl, f9.set (.inr (by omega)), by rw [lstAt_ne (by omega)]; exact q, by rw [mutAt_ne (by omega)]; exact p1, by omega, by rw [mutAt_ne (by omega)]; exact p2, by omega, mutAt_set (mutAt_lt p3), by simp; omega⟩
    | j + 3, hx => simp at hx
  · rintro es h9 ⟨x14, A1, A2, A3, rfl, f9, _⟩
    have L9 := L.fr f9
    have m4 : ∀ fn a es, kMeth 0 fn a es (.ref o) h9 = _ := fun fn a es => kMeth_ref L9.ho.ob
    simp [m4, tri_bind, copies_ok L9.ho]
    refine (same 6 (.int 0) (.int 0) (.int 0) h9 rfl rfl (by simp [PyData.depth]) rfl).mono ?_
    rintro v h10 ⟨rfl, f10⟩
    simp
    exact ⟨dy, d, c, n, T, B, td, cd, th, bk, se, aw, x8, x9, x10, x11, x12, _, _, rfl, L9.fr f10, hn, hB, hd0, hd1, fun _ z => by cases z⟩
end
end K02
set_option Elab.async false
set_option linter.all false
set_option maxRecDepth 100000
set_option maxHeartbeats 4000000
namespace K02
open PySem L2 EE LW
def WR : DS :=
  (dSeq (dPar 10 11 (dCons (dCall LW.m__law_drawn (dCons (dVar 1) (dCons (dC (.int 1000)) dNil))) (dCons (dOp fAdd (dC (.int 1)) (dCall LW.m__law_drawn (dCons (dVar 1) (dCons (dOp fIx (dLst (dCons (dC (.int 3)) (dCons (dC (.int 30)) dNil))) (dCall LW.m__law_drawn (dCons (dVar 1) (dCons (dC (.int 2)) dNil)))) dNil)))) dNil)))
  (dSeq (dIfS (dNot (dB (dCall (LW.m__law_same 6) (dCons (dMeth 0 m_House_write (dVar 4) (dCons (dVar 10) (dCons (dVar 11) dNil))) (dCons (dTup (dCons (dVar 3) (dCons (dCB fLen (dCons (dVar 7) dNil)) dNil))) dNil))))) (dRet (dC (.bl false)))
  dNext)
  (dSeq (dAsg (dTup (dCons (dVar 10) (dCons (dOp fAdd (dVar 5) (dVar 11)) dNil))) (dGSub (dVar 6) (dTup (dCons (dVar 3) (dCons (dCB fLen (dCons (dVar 7) dNil)) dNil))) sDic))
  (dDrop (dBM mApp (dVar 7) (dCons (dTup (dCons (dVar 3) (dCons (dCB fLen (dCons (dVar 7) dNil)) dNil))) dNil))))))
def CB : DS :=
  (dSeq (dAsg (dOp fIx (dVar 7) (dCall LW.m__law_drawn (dCons (dVar 1) (dCons (dCB fLen (dCons (dVar 7) dNil)) dNil)))) (dName 12))
  (dSeq (dDrop (dBMD mPopT (dVar 6) (dCons (dVar 12) (dCons (dC .non) dNil))))
  (dIfS (dB (dOp (fIsN true) (dMeth 0 m_House_call_back (dVar 4) (dCons (dVar 12) dNil)) (dC .non))) (dRet (dC (.bl false)))
  dNext)))
def DY : DS :=
  (dSeq (dAsg (dOp fAdd (dOp fAdd (dVar 5) (dC (.int 1))) (dCall LW.m__law_drawn (dCons (dVar 1) (dCons (dOp fIx (dLst (dCons (dC (.int 1)) (dCons (dC (.int 5)) (dCons (dC (.int 40)) dNil)))) (dCall LW.m__law_drawn (dCons (dVar 1) (dCons (dC (.int 3)) dNil)))) dNil)))) (dName 5))
  (dSeq (dDrop (dMeth 0 m_House_day (dVar 4) (dCons (dVar 5) dNil)))
  (dAsg (dCB fDictT (dCons (dLockE (dVar 6) (dLc (dItK (dVar 6)) (dName 12) (dB (dOp fGt (dOp fIx (dOp fDGet (dVar 6) (dVar 12)) (dC (.int 1))) (dVar 5))) (dTup (dCons (dVar 12) (dCons (dOp fDGet (dVar 6) (dVar 12)) dNil))) [12])) dNil)) (dName 6))))
theorem BR_eq : BR = dIfS (dOr (dB (dOp fLt (dVar 9) (dC (.int 3)))) (dB (dOp fEq (dVar 7) (dLst dNil)))) WR (dIfS (dB (dOp fEq (dVar 9) (dC (.int 3)))) CB DY) := rfl
section
variable {ns : List Int} {s o i a : Nat} {many : Int} {es : ES} {h : EH}
theorem same_mk (me : Int) (n : Nat) (h5 : EH) (x y : EV) (hx : x = mk me n) (hy : y = .tup [.int me, .int (n : Int)]) : Tri (m__law_same 6 [x, y] h5) fun v h' => v = .bl true ∧ Fr [] h5 h' := by
  have q1 : Dt h5 (mD me n) x := by rw [hx]; exact dt_mk me n
  have q2 : Dt h5 (mD me n) y := by rw [hy]; exact dt_mk me n
  have q3 : (mD me n).depth < 6 := by simp [mD, PyData.depth, PyData.depthAll]
  have q4 : sm (mD me n) = true := by simp [mD, sm, sms]
  exact LW.same 6 (mD me n) x y h5 q1 q2 q3 q4
theorem wr_ok (hp : PI ns s many (a : Int) o i none es h) (hi : i ≤ 50) : Tri (WR es h) fun f h' => ∃ es', f = .nx es' ∧ PI ns s many (a : Int) o (i + 1) none es' h' := by
  obtain ⟨dy, d, c, n, T, B, td, cd, th, bk, se, aw, x8, x9, x10, x11, x12, x13, x14, rfl, L, hn, hB, hd0, hd1, _⟩ := hp
  have hTl := asc_len L.asc L.lt
  simp only [WR]
  simp [tri_bind]
  refine drawnF L.st (by decide) (by decide) fun w h1 w0 w1 hs1 f1 _ => ?_
  have L1 := L.draw f1 hs1
  have f2 : Fr [] h1 (h1 ++ [EO.lst [.int 3, .int 30]]) := Fr.app _ _ _
  have l2 : lstAt (h1 ++ [EO.lst [.int 3, .int 30]]) h1.length = some [.int 3, .int 30] := lstAt_new
  have hsl := L1.st.lt
  have L2 := L1.fr f2
  generalize h1 ++ [EO.lst [.int 3, .int 30]] = h2 at *
  refine drawnF L2.st (by decide) (by decide) fun r h3 r0 r1 hs3 f3 _ => ?_
  have L3 := L2.draw f3 hs3
  have l3 := f3.lst l2 (by simp; omega)
  obtain ⟨v, v0, v1, hv⟩ := pick2 (h := h3) (r := r) (by omega) l3
  simp [tri_bind, hv]
  refine drawnF L3.st (by omega) (by omega) fun l h4 l0 l1 hs4 f4 _ => ?_
  have L4 := L3.draw f4 hs4
  have m4 : ∀ fn a es, kMeth 0 fn a es (.ref o) h4 = _ := fun fn a es => kMeth_ref L4.ho.ob
  simp [m4, tri_bind]
  generalize hlf : 1 + l = lf
  refine (write_ok L4.ho w0 (by omega) (by omega) (by omega) L4.lt (by omega) (by omega)).mono ?_
  rintro v5 h5 ⟨rfl, H5, f5⟩
  have k1 : d ≠ o := ne_kind L4.nt L4.ho.ob (by intro z; cases z)
  have k2 : c ≠ o := ne_kind L4.cm L4.ho.ob (by intro z; cases z)
  have k3 : c ≠ cd := ne_kind L4.cm L4.ho.came (by intro z; cases z)
  have k4 : c ≠ th := ne_kind L4.cm L4.ho.there (by intro z; cases z)
  have k5 : c ≠ d := ne_kind L4.cm L4.nt (by intro z; cases z)
  have k6 : c ≠ bk := ne_kind L4.cm L4.ho.back (by intro z; cases z)
  have k7 : c ≠ td := ne_kind L4.cm L4.ho.tied (by intro z; cases z)
  have k8 : d ≠ td := ne_kind L4.nt L4.ho.tied (by intro z; cases z)
  obtain ⟨so, s1, ⟨_, _, _, s2, _⟩, s3, s4⟩ := id L4.st
  subst s2
  have a1 : s ≠ o := ne_kind s1 L4.ho.ob (by intro z; cases z)
  have a3 : s ≠ cd := ne_kind s1 L4.ho.came (by intro z; cases z)
  have a4 : s ≠ th := ne_kind s1 L4.ho.there (by intro z; cases z)
  have a6 : s ≠ d := ne_kind s1 L4.nt (by intro z; cases z)
  have z1 : 0 ≠ o := ne_kind s3 L4.ho.ob (by intro z; cases z)
  have z3 : 0 ≠ cd := ne_kind s3 L4.ho.came (by intro z; cases z)
  have z4 : 0 ≠ th := ne_kind s3 L4.ho.there (by intro z; cases z)
  have z6 : 0 ≠ d := ne_kind s3 L4.nt (by intro z; cases z)
  have z7 : 0 ≠ c := ne_kind s3 L4.cm (by intro z; cases z)
  have hs5 : St ns h5 s := K02.St.frX L4.st f5 (by simp [a1, a3, a4]) (by simp [z1, z3, z4])
  have n5 := f5.at L4.nt (by simp [k1, L4.e1, L4.e2])
  have c5 := f5.at L4.cm (by simp [k2, k3, k4])
  simp [f_len (lstAt_of c5), tri_bind]
  generalize hx : mk (a : Int) n = x
  generalize hy : EV.tup [.int (a : Int), .int (n : Int)] = y
  refine (same_mk (a : Int) n h5 x y hx.symm hy.symm).mono ?_
  rintro v6 h6 ⟨rfl, f6⟩
  subst hx hy
  have H6 := H5.frX f6 (by simp) (by simp) (by simp) (by simp) (by simp)
  have hs6 := hs5.fr f6
  have n6 := f6.at n5 (by simp)
  have c6 := f6.at c5 (by simp)
  have p6 := s_dic (x := mk (a : Int) n) (v := .tup [.int w, .int (dy + lf)]) n6 (put_tv (a : Int) T n w (dy + lf) (fun t ht => by have := L4.lt t ht; omega)) (by unfold tv; rw [List.length_map]; omega)
  have emk : EV.tup [.int (a : Int), .int (n : Int)] = mk (a : Int) n := rfl
  simp [f_len (lstAt_of c6), tri_bind, emk, p6]
  have c7 : (h6.set d (.dic true (tv (a : Int) (T ++ [(n, w, dy + lf)]))))[c]? = some (.lst (marks (a : Int) n)) := set_at c6 k5.symm
  have n7 := set_self (y := .dic true (tv (a : Int) (T ++ [(n, w, dy + lf)]))) n6
  have H7 : Ho (a : Int) many (h6.set d (.dic true (tv (a : Int) (T ++ [(n, w, dy + lf)])))) o dy (n + 1) (T ++ [(n, w, dy + lf)]) B td cd th bk se aw := H6.frX ((Fr.refl [d] _).set (.inl (by simp))) (by simp [k1.symm]) (by simp [k8.symm]) (by simp [L4.e1.symm]) (by simp [L4.e2.symm]) (by simp [L4.e3.symm])
  have hs7 : St ns (h6.set d (.dic true (tv (a : Int) (T ++ [(n, w, dy + lf)])))) s := K02.St.frX hs6 ((Fr.refl [d] _).set (.inl (by simp))) (by simp [a6]) (by simp [z6])
  generalize h6.set d (.dic true (tv (a : Int) (T ++ [(n, w, dy + lf)]))) = h7 at *
  simp [kBM_ref _ _ _ (lstAt_of c7), f_len (lstAt_of c7), tri_bind, emk, m_append (mutAt_of c7) (show (marks (a : Int) n).length < 100000 by simp; omega)]
  refine ⟨dy, d, c, n + 1, T ++ [(n, w, dy + lf)], B, td, cd, th, bk, se, aw, _, _, _, _, _, _, _, rfl, ?_, by omega, by omega, hd0, by omega, fun _ z => by cases z⟩
  refine ⟨K02.St.frX hs7 ((Fr.refl [c] _).set (.inl (by simp))) (by simp [L4.e4]) (by simp [z7]), H7.frX ((Fr.refl [c] _).set (.inl (by simp))) (by simp [k2.symm]) (by simp [k7.symm]) (by simp [k3.symm]) (by simp [k4.symm]) (by simp [k6.symm]), set_at n7 k5, ?_, L4.e1, L4.e2, L4.e3, L4.e4, asc_snoc L4.asc L4.lt, fun t ht => ?_⟩
  · rw [set_self c7]
    simp [marks, List.range_succ]
  · rcases List.mem_append.mp ht with q | q
    · have := L4.lt t q
      omega
    · rw [List.mem_singleton.mp q]
      simp
end
end K02
set_option Elab.async false
set_option linter.all false
set_option maxRecDepth 100000
set_option maxHeartbeats 4000000
namespace K02
open PySem L2 EE LW
section
variable {ns : List Int} {s o i a : Nat} {many : Int} {es : ES} {h : EH}
@[simp] theorem f_notN_non (h : EH) : fIsN true .non .non h = .ok (.bl false) h := rfl
theorem set_same {h : EH} {d : Nat} {x : EO} (e : h[d]? = some x) : h.set d x = h := by
  apply List.ext_getElem?
  intro j
  by_cases hj : d = j
  · subst hj
    rw [set_self e, e]
  · rw [List.getElem?_set_ne hj]
theorem pop_ok {me : Int} {T : List Nt} {k d : Nat} (e : h[d]? = some (.dic true (tv me T))) : ∃ v, mPopT (.ref d) [mk me k, .non] h = .ok v (h.set d (.dic true (tv me (wo T k)))) := by
  cases hf : (T.find? fun t => decide (t.1 = k)) with
  | none =>
    refine ⟨.non, ?_⟩
    rw [m_pop_no e (tkey_mk me k) (by rw [dval_tv, hf]; rfl), wo, filter_none hf, set_same e]
  | some t =>
    refine ⟨nv t, ?_⟩
    rw [m_pop_yes (v := nv t) e (tkey_mk me k) (by rw [dval_tv, hf]; rfl), drop_tv]
    simp [wo]
theorem cb_ok (hp : PI ns s many (a : Int) o i none es h) (hi : i ≤ 50) (hn0 : ∀ n c, es[7]? = some (some (.ref c)) → h[c]? = some (.lst (marks (a : Int) n)) → n ≠ 0) : Tri (CB es h) fun f h' => ∃ es', f = .nx es' ∧ PI ns s many (a : Int) o (i + 1) none es' h' := by
  obtain ⟨dy, d, c, n, T, B, td, cd, th, bk, se, aw, x8, x9, x10, x11, x12, x13, x14, rfl, L, hn, hB, hd0, hd1, _⟩ := hp
  have hTl := asc_len L.asc L.lt
  have hnp : n ≠ 0 := hn0 n c rfl L.cm
  simp only [CB]
  simp [tri_bind, f_len (lstAt_of L.cm)]
  refine drawnF L.st (by omega) (by omega) fun r h1 r0 r1 hs1 f1 _ => ?_
  have L1 := L.draw f1 hs1
  obtain ⟨k, rfl⟩ := Int.eq_ofNat_of_zero_le r0
  have hk : k < n := by omega
  have i1 : fIx (.ref c) (.int (k : Int)) h1 = .ok (mk (a : Int) k) h1 := f_ixL _ (lstAt_of L1.cm) k rfl (by rw [List.getElem?_map, List.getElem?_range hk]; rfl)
  have b1 : ∀ f a es, kBMD f a es (.ref d) h1 = _ := fun f a es => kBMD_ref L1.nt
  obtain ⟨pv, hpv⟩ := pop_ok (k := k) L1.nt
  have k1 : d ≠ o := ne_kind L.nt L.ho.ob (by intro z; cases z)
  have k5 : c ≠ d := ne_kind L.cm L.nt (by intro z; cases z)
  have k6 : c ≠ bk := ne_kind L.cm L.ho.back (by intro z; cases z)
  have k4 : c ≠ th := ne_kind L.cm L.ho.there (by intro z; cases z)
  have k8 : d ≠ td := ne_kind L.nt L.ho.tied (by intro z; cases z)
  obtain ⟨so, s1, ⟨_, _, _, s2, _⟩, s3, s4⟩ := id L.st
  subst s2
  have a4 : s ≠ th := ne_kind s1 L.ho.there (by intro z; cases z)
  have a5 : s ≠ bk := ne_kind s1 L.ho.back (by intro z; cases z)
  have a6 : s ≠ d := ne_kind s1 L.nt (by intro z; cases z)
  have z4 : 0 ≠ th := ne_kind s3 L.ho.there (by intro z; cases z)
  have z5 : 0 ≠ bk := ne_kind s3 L.ho.back (by intro z; cases z)
  have z6 : 0 ≠ d := ne_kind s3 L.nt (by intro z; cases z)
  simp [i1, b1, hpv, tri_bind]
  have n2 := set_self (y := .dic true (tv (a : Int) (wo T k))) L1.nt
  have c2 := set_at (y := .dic true (tv (a : Int) (wo T k))) L1.cm k5.symm
  have fd : Fr [d] h1 (h1.set d (.dic true (tv (a : Int) (wo T k)))) := (Fr.refl _ _).set (.inl (by simp))
  have H2 := L1.ho.frX fd (by simp [k1.symm]) (by simp [k8.symm]) (by simp [L1.e1.symm]) (by simp [L1.e2.symm]) (by simp [L1.e3.symm])
  have hs2 := K02.St.frX L1.st fd (by simp [a6]) (by simp [z6])
  generalize h1.set d (.dic true (tv (a : Int) (wo T k))) = h2 at *
  have m2 : ∀ fn a es, kMeth 0 fn a es (.ref o) h2 = _ := fun fn a es => kMeth_ref H2.ob
  simp [m2, tri_bind]
  refine (back_ok H2 hk (by omega) (by omega)).mono ?_
  rintro v h3 ⟨rfl, f3, B', hB', H3⟩
  simp
  refine ⟨dy, d, c, n, wo T k, B', td, cd, th, bk, se, aw, _, _, _, _, _, _, _, rfl, ?_, by omega, by omega, hd0, by omega, fun _ z => by cases z⟩
  exact ⟨K02.St.frX hs2 f3 (by simp [a4, a5]) (by simp [z4, z5]), H3, f3.at n2 (by simp [L1.e2, L1.e3]), f3.at c2 (by simp [k4, k6]), L1.e1, L1.e2, L1.e3, L1.e4, asc_filter L1.asc _, fun t ht => L1.lt t (List.mem_filter.mp ht).1⟩
theorem dy_ok (hp : PI ns s many (a : Int) o i none es h) (hi : i ≤ 50) : Tri (DY es h) fun f h' => ∃ es', f = .nx es' ∧ PI ns s many (a : Int) o (i + 1) none es' h' := by
  obtain ⟨dy, d, c, n, T, B, td, cd, th, bk, se, aw, x8, x9, x10, x11, x12, x13, x14, rfl, L, hn, hB, hd0, hd1, _⟩ := hp
  have hTl := asc_len L.asc L.lt
  simp only [DY]
  simp [tri_bind]
  have f2 : Fr [] h (h ++ [EO.lst [.int 1, .int 5, .int 40]]) := Fr.app _ _ _
  have l2 : lstAt (h ++ [EO.lst [.int 1, .int 5, .int 40]]) h.length = some [.int 1, .int 5, .int 40] := lstAt_new
  have hsl := L.st.lt
  have L2 := L.fr f2
  generalize h ++ [EO.lst [.int 1, .int 5, .int 40]] = h2 at *
  refine drawnF L2.st (by decide) (by decide) fun r h3 r0 r1 hs3 f3 _ => ?_
  have L3 := L2.draw f3 hs3
  have l3 := f3.lst l2 (by simp; omega)
  obtain ⟨v, v0, v1, hv⟩ := pick3 (h := h3) (r := r) (by omega) l3
  simp [tri_bind, hv]
  refine drawnF L3.st (by omega) (by omega) fun l h4 l0 l1 hs4 f4 _ => ?_
  have L4 := L3.draw f4 hs4
  have m4 : ∀ fn a es, kMeth 0 fn a es (.ref o) h4 = _ := fun fn a es => kMeth_ref L4.ho.ob
  simp [m4, tri_bind]
  generalize hdn : dy + 1 + l = dn
  refine (day_ok L4.ho L4.asc (by omega) (by omega) (by omega)).mono ?_
  rintro v5 h5 ⟨rfl, f5, th', hth, H5⟩
  have k1 : d ≠ o := ne_kind L4.nt L4.ho.ob (by intro z; cases z)
  have k2 : c ≠ o := ne_kind L4.cm L4.ho.ob (by intro z; cases z)
  obtain ⟨so, s1, ⟨_, _, _, s2, _⟩, s3, s4⟩ := id L4.st
  subst s2
  have a1 : s ≠ o := ne_kind s1 L4.ho.ob (by intro z; cases z)
  have z1 : 0 ≠ o := ne_kind s3 L4.ho.ob (by intro z; cases z)
  have n5 := f5.at L4.nt (by simp [k1])
  have c5 := f5.at L4.cm (by simp [k2])
  have hs5 := K02.St.frX L4.st f5 (by simp [a1]) (by simp [z1])
  refine rebuild n5 L4.asc (by omega) fun r6 h6 l6 f6 le6 => ?_
  have fold := fold_tv (me := (a : Int)) (on T dn) [] (by rw [List.nil_append]; exact asc_filter L4.asc _)
  simp only [List.nil_append] at fold
  have fold' : dfoldT [] ((on T dn).map fun t => .tup [mk (a : Int) t.1, nv t]) = some (tv (a : Int) (on T dn)) := fold
  simp [f_dictT l6 fold']
  have f7 : Fr [] h5 (h6 ++ [EO.dic true (tv (a : Int) (on T dn))]) := f6.trans (Fr.app _ _ _)
  have H7 := H5.frX f7 (by simp) (by simp) (by simp) (by simp) (by simp)
  have H6 := H5.frX f6 (by simp) (by simp) (by simp) (by simp) (by simp)
  have e1 := (List.getElem?_eq_some_iff.mp H6.came).1
  have e2 := (List.getElem?_eq_some_iff.mp H6.there).1
  have e3 := (List.getElem?_eq_some_iff.mp H6.back).1
  refine ⟨dn, h6.length, c, n, on T dn, B, td, cd, th', bk, se, aw, _, _, _, _, _, _, _, rfl, ?_, by omega, by omega, by omega, by omega, fun _ z => by cases z⟩
  refine ⟨hs5.fr f7, H7, ?_, f7.at c5 (by simp), by omega, by omega, by omega, L4.e4, asc_filter L4.asc _, fun t ht => L4.lt t (List.mem_filter.mp ht).1⟩
  rw [List.getElem?_append_right (Nat.le_refl _), Nat.sub_self]
  rfl
end
end K02
set_option Elab.async false
set_option linter.all false
set_option maxRecDepth 100000
set_option maxHeartbeats 4000000
namespace K02
open PySem L2 EE LW
theorem b_law_eq : b_law =
  (dSeq (dAsg (dCall LW.m__law_start (dCons (dVar 0) dNil)) (dName 1))
  (dSeq (dAsg (dOp fAdd (dC (.int 2)) (dCall LW.m__law_drawn (dCons (dVar 1) (dCons (dC (.int 7)) dNil)))) (dName 2))
  (dSeq (dAsg (dCall LW.m__law_drawn (dCons (dVar 1) (dCons (dVar 2) dNil))) (dName 3))
  (dSeq (dAsg (dTup (dCons (dMake 0 11 m_House___init__ (dCons (dVar 3) (dCons (dVar 2) dNil))) (dCons (dC (.int 0)) (dCons (dNewD true) (dCons (dLst dNil) dNil))))) (dGTup 4 (dGCons (dName 4) (dGCons (dName 5) (dGCons (dName 6) (dGCons (dName 7) dGNil))))))
  (dSeq (dFor (dItR1 (dCons (dCall LW.m__law_drawn (dCons (dVar 1) (dCons (dC (.int 51)) dNil))) dNil)) (dName 8)
  (dSeq (dAsg (dCall LW.m__law_drawn (dCons (dVar 1) (dCons (dC (.int 6)) dNil))) (dName 9))
  (dSeq BR
  RS)))
  (dRet (dC (.bl true)))))))) := rfl
section
variable {ns : List Int} {s o i a : Nat} {many : Int} {es : ES} {h : EH}
theorem PI.fr {me : Int} {w : Option (Option EV)} {h' : EH} (hp : PI ns s many me o i w es h) (f : Fr [] h h') : PI ns s many me o i w es h' := by
  obtain ⟨dy, d, c, n, T, B, td, cd, th, bk, se, aw, x8, x9, x10, x11, x12, x13, x14, rfl, L, r⟩ := hp
  exact ⟨dy, d, c, n, T, B, td, cd, th, bk, se, aw, x8, x9, x10, x11, x12, x13, x14, rfl, L.fr f, r⟩
theorem PI.any {me : Int} {w : Option (Option EV)} (hp : PI ns s many me o i w es h) : PI ns s many me o i none es h := by
  obtain ⟨dy, d, c, n, T, B, td, cd, th, bk, se, aw, x8, x9, x10, x11, x12, x13, x14, rfl, L, a1, a2, a3, a4, _⟩ := hp
  exact ⟨dy, d, c, n, T, B, td, cd, th, bk, se, aw, x8, x9, x10, x11, x12, x13, x14, rfl, L, a1, a2, a3, a4, fun _ z => by cases z⟩
theorem marks_inj {me : Int} {m n : Nat} (h : marks me m = marks me n) : m = n := by
  have := congrArg List.length h
  simpa using this
theorem br_ok {way : Int} (hp : PI ns s many (a : Int) o i (some (some (.int way))) es h) (hi : i ≤ 50) : Tri (BR es h) fun f h' => ∃ es', f = .nx es' ∧ PI ns s many (a : Int) o (i + 1) none es' h' := by
  have hpa := hp.any
  obtain ⟨dy, d, c, n, T, B, td, cd, th, bk, se, aw, x8, x9, x10, x11, x12, x13, x14, he, L, a1, a2, a3, a4, hw⟩ := hp
  have hx9 := hw _ rfl
  subst hx9
  rw [BR_eq]
  by_cases h3 : way < 3
  · rw [he]
    simp [h3, tri_bind]
    rw [he] at hpa
    exact wr_ok hpa hi
  · have f1 : Fr [] h (h ++ [EO.lst []]) := Fr.app _ _ _
    have q := f_eqMk (lst_mut (mutAt_of (f1.at L.cm (by simp)))) (lstAt_new (h := h) (xs := []))
    have hp1 := hpa.fr f1
    have c1 := f1.at L.cm (by simp)
    rw [he] at hp1 ⊢
    simp [h3, q, tri_bind]
    by_cases hn : n = 0
    · simp [hn]
      exact wr_ok hp1 hi
    · simp [hn]
      by_cases hw3 : way = 3
      · simp [hw3]
        subst hw3
        refine cb_ok hp1 hi fun m c' e1 e2 => ?_
        simp at e1
        subst e1
        rw [c1] at e2
        simp only [Option.some.injEq, EO.lst.injEq] at e2
        rw [← marks_inj e2]
        exact hn
      · simp [hw3]
        exact dy_ok hp1 hi
theorem law_tri (ns : List Int) : Tri (m_law [.ref 0] [.ro (ns.map EV.int)]) fun v _ => v = .bl true := by
  rw [u_law, b_law_eq]
  simp [tri_bind]
  refine start (ns := ns) rfl fun h1 hs1 f1 => ?_
  generalize ([EO.ro (ns.map EV.int)] : EH).length = s at *
  refine drawnF hs1 (by decide) (by decide) fun r1 h2 p0 p1 hs2 f2 _ => ?_
  obtain ⟨r, rfl⟩ := Int.eq_ofNat_of_zero_le p0
  simp [tri_bind]
  generalize hm : (2 : Int) + (r : Int) = many
  refine drawnF hs2 (by omega) (by omega) fun me h3 q0 q1 hs3 f3 _ => ?_
  obtain ⟨a, rfl⟩ := Int.eq_ofNat_of_zero_le q0
  refine (init_ok (h := h3) (by omega) q1 (by omega) (by omega)).mono ?_
  rintro v h4 ⟨rfl, f4, td, cd, th, bk, se, aw, t1, t2, t3, t4, H4⟩
  simp
  have f5 : Fr [] h4 (h4 ++ [EO.dic true [], EO.lst []]) := Fr.app _ _ _
  have n5 : (h4 ++ [EO.dic true [], EO.lst []])[h4.length]? = some (.dic true []) := by
    rw [List.getElem?_append_right (Nat.le_refl _), Nat.sub_self]
    rfl
  have c5 : (h4 ++ [EO.dic true [], EO.lst []])[h4.length + 1]? = some (.lst []) := by
    rw [List.getElem?_append_right (by omega), Nat.add_sub_cancel_left]
    rfl
  have e1 := (List.getElem?_eq_some_iff.mp H4.came).1
  have e2 := (List.getElem?_eq_some_iff.mp H4.there).1
  have e3 := (List.getElem?_eq_some_iff.mp H4.back).1
  have hs4 := hs3.fr f4
  have hs5 := hs4.fr f5
  have hsl := hs4.lt
  have H5 := H4.frX f5 (by simp) (by simp) (by simp) (by simp) (by simp)
  have L5 : LI ns (a : Int) many (h4 ++ [EO.dic true [], EO.lst []]) s h3.length h4.length (h4.length + 1) 0 0 [] [] td cd th bk se aw :=
    ⟨hs5, H5, n5, c5, by omega, by omega, by omega, by omega, List.Pairwise.nil, fun t ht => by simp at ht⟩
  generalize h4 ++ [EO.dic true [], EO.lst []] = h5 at *
  generalize h4.length = d at *
  generalize h3.length = o at *
  refine drawnF L5.st (by decide) (by decide) fun cnt h6 g0 g1 hs6 f6 _ => ?_
  have L6 := L5.draw f6 hs6
  rw [ap_kItR1 h6 cnt (by omega) (by omega)]
  simp
  refine tri_for (xs := rng 0 cnt.toNat) (fun i es h => PI ns s many (a : Int) o i none es h) ⟨0, d, d + 1, 0, [], [], td, cd, th, bk, se, aw, _, _, _, _, _, _, _, rfl, L6, Nat.le_refl _, Nat.le_refl _, Int.le_refl _, by omega, fun _ z => by cases z⟩ (fun _ _ _ _ => rfl) ?_ ?_
  · rintro i x es h K hx hp hK _ _ _
    have hi := (rng_at hx).1
    obtain ⟨dy, d, c, n, T, B, td, cd, th, bk, se, aw, x8, x9, x10, x11, x12, x13, x14, rfl, L, a1, a2, a3, a4, _⟩ := hp
    simp [tri_bind]
    refine drawnF L.st (by decide) (by decide) fun way h7 w0 w1 hs7 f7 _ => ?_
    have L7 := L.draw f7 hs7
    refine (br_ok (way := way) ⟨dy, d, c, n, T, B, td, cd, th, bk, se, aw, _, _, _, _, _, _, _, rfl, L7, a1, a2, a3, a4, fun w hw => by cases hw; rfl⟩ (by omega)).mono ?_
    rintro f h8 ⟨es8, rfl, hp8⟩
    simp
    refine (rest_ok hp8 (by omega)).mono ?_
    rintro f h9 ⟨es9, rfl, hp9⟩
    exact hK _ _ hp9
  · intro es h hp
    simp
theorem law_ok : LawOk m_law := fun ns hn => by
  obtain ⟨v, h, e, rfl⟩ := (law_tri ns).ex
  exact ⟨h, e⟩
end
end K02
open PySem PySem.W PyProof.Rows
set_option maxHeartbeats 0 in
theorem PySem.Challenge.cw_newsflood_k02_a_house_alone_holds : PySem.Challenge.rw_newsflood_k02_a_house_alone.Holds := by
  w_on; o_law; k_head; (case hw => w_witness2)
  k_fill
  refine L2.walk_of (l := PySem.Challenge.rw_newsflood_k02_a_house_alone) (n := 63) (k := 7) (x := "_law_script") (CX := fun _ => L2.CX0) (sp := fun w => EE.spAny _ K02.m_law) rfl (by decide) rfl ⟨rfl, by decide, by decide⟩ (fun w h Y => PySem.W.kIn_of Y) ?F (fun _ H a ns hl hO hS => EE.law_spA K02.law_ok hl hO hS) (fun _ _ _ _ _ h => h)
  case F =>
    intro w mg fa h KX G hmg
    refine' K02.all_mk KX G hmg ?aC0 ?pg0 ?hd0 ?po0 ?sa0 ?mk0 ?kC0 ?n0_0 ?n0_1 ?n0_2 ?n0_3 ?n0_4 ?n0_5 ?n0_6 ?n0_7 ?n0_8 ?n0_9 ?n0_10 ?a0 ?l0 ?c0 ?k0 ?a1 ?l1 ?c1 ?k1 ?a2 ?l2 ?c2 ?k2 ?a3 ?l3 ?c3 ?k3 ?a4 ?l4 ?c4 ?k4 ?a5 ?i5 ?l5 ?c5 ?k5 ?a6 ?i6 ?l6 ?c6 ?k6 ?a7 ?i7 ?l7 ?c7 ?k7 ?a8 ?i8 ?l8 ?c8 ?k8 ?a9 ?i9 ?l9 ?c9 ?k9 ?a10 ?i10 ?l10 ?c10 ?k10 ?a11 ?i11 ?l11 ?c11 ?k11 ?a12 ?l12 ?c12 ?k12 ?a13 ?i13 ?l13 ?c13 ?k13 ?a14 ?i14 ?l14 ?c14 ?k14 ?a15 ?i15 ?l15 ?c15 ?k15 ?a16 ?l16 ?c16 ?k16 ?a17 ?i17 ?l17 ?c17 ?k17 ?a18 ?i18 ?l18 ?c18 ?k18 ?a19 ?i19 ?l19 ?c19 ?k19 ?a20 ?l20 ?c20 ?k20 ?z_bool ?z_dict ?z_int ?z_isinstance ?z_len ?z_list ?z_range ?z_sorted ?z_str ?z_tuple ?y_FEWEST_HOUSES ?y_LAST_DAY ?y_LONGEST_LIFE ?y_MOST_HOUSES ?y_MOST_WORTH ?y_NEWS
    (case aC0 => k_is); (case pg0 => k_is); (case hd0 => k_is); (case po0 => k_is); (case sa0 => k_is); (case mk0 => k_is); (case kC0 => k_is); (case n0_0 => k_is); (case n0_1 => k_is); (case n0_2 => k_is); (case n0_3 => k_is); (case n0_4 => k_is); (case n0_5 => k_is); (case n0_6 => k_is); (case n0_7 => k_is); (case n0_8 => k_is); (case n0_9 => k_is); (case n0_10 => k_is); (case a0 => k_is); (case l0 => k_is); (case c0 => k_is); (case k0 => k_is); (case a1 => k_is); (case l1 => k_is); (case c1 => k_is); (case k1 => k_is); (case a2 => k_is); (case l2 => k_is); (case c2 => k_is); (case k2 => k_is); (case a3 => k_is); (case l3 => k_is); (case c3 => k_is); (case k3 => k_is); (case a4 => k_is); (case l4 => k_is); (case c4 => k_is); (case k4 => k_is); (case a5 => k_is); (case i5 => k_is); (case l5 => k_is); (case c5 => k_is); (case k5 => k_is); (case a6 => k_is); (case i6 => k_is); (case l6 => k_is); (case c6 => k_is); (case k6 => k_is); (case a7 => k_is); (case i7 => k_is); (case l7 => k_is); (case c7 => k_is); (case k7 => k_is); (case a8 => k_is); (case i8 => k_is); (case l8 => k_is); (case c8 => k_is); (case k8 => k_is); (case a9 => k_is); (case i9 => k_is); (case l9 => k_is); (case c9 => k_is); (case k9 => k_is); (case a10 => k_is); (case i10 => k_is); (case l10 => k_is); (case c10 => k_is); (case k10 => k_is); (case a11 => k_is); (case i11 => k_is); (case l11 => k_is); (case c11 => k_is); (case k11 => k_is); (case a12 => k_is); (case l12 => k_is); (case c12 => k_is); (case k12 => k_is); (case a13 => k_is); (case i13 => k_is); (case l13 => k_is); (case c13 => k_is); (case k13 => k_is); (case a14 => k_is); (case i14 => k_is); (case l14 => k_is); (case c14 => k_is); (case k14 => k_is); (case a15 => k_is); (case i15 => k_is); (case l15 => k_is); (case c15 => k_is); (case k15 => k_is); (case a16 => k_is); (case l16 => k_is); (case c16 => k_is); (case k16 => k_is); (case a17 => k_is); (case i17 => k_is); (case l17 => k_is); (case c17 => k_is); (case k17 => k_is); (case a18 => k_is); (case i18 => k_is); (case l18 => k_is); (case c18 => k_is); (case k18 => k_is); (case a19 => k_is); (case i19 => k_is); (case l19 => k_is); (case c19 => k_is); (case k19 => k_is); (case a20 => k_is); (case l20 => k_is); (case c20 => k_is); (case k20 => k_is); (case z_bool => k_is); (case z_dict => k_is); (case z_int => k_is); (case z_isinstance => k_is); (case z_len => k_is); (case z_list => k_is); (case z_range => k_is); (case z_sorted => k_is); (case z_str => k_is); (case z_tuple => k_is); (case y_FEWEST_HOUSES => k_is); (case y_LAST_DAY => k_is); (case y_LONGEST_LIFE => k_is); (case y_MOST_HOUSES => k_is); (case y_MOST_WORTH => k_is); (case y_NEWS => k_is)
