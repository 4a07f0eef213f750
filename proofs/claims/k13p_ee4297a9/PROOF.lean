import PyProof.Rows.All
import Wide.All
import OpenK.AllK
import Wide.FinOn
import HandS.ForMost
import HandS.Wide
import HandS.Deep
import HandS.IsInst
import HandS.Small
import HandS.TupAny
import HandS.DictTup
import HandS.Conv
import HandS.Iter
import HandS.SortInts
import HandS.More
import HandS.DictComp
import HandS.MethStar
import PyProof.CollectIter
import PyProof.WalksMore
import PyProof.WalksS
import HandS.Style
import HandS.TupSets
import HandS.Strs
import HandS.SetFor
import HandS.TupLen
import HandS.Text
import HandS.StrMore
import HandS.RaiseMore
import HandS.Star
import PyProof.Walks
import PyProof.P3Eq
import PySem.Challenge.RW_newsflood_k13_written_and_read
set_option Elab.async false
set_option linter.all false
set_option maxRecDepth 100000
set_option maxHeartbeats 1000000
namespace EE
open PySem PySem.Spec PyProof.Rows L2
abbrev Fg := PySem.W.Frag
inductive EV where
  | non | bl (b : Bool) | int (i : Int) | str (x : Str) | ref (n : Nat) | ty (n : String) | tup (xs : List EV)
  deriving Inhabited
inductive EO where
  | lst (xs : List EV) | ro (xs : List EV) | dic (t : Bool) (kvs : List (EV × EV)) | lkd (t : Bool) (kvs : List (EV × EV)) | obj (c : Nat) (fs : List (Option EV))
  deriving Inhabited
abbrev ES := List (Option EV)
abbrev EH := List EO
abbrev Rho := List (Bool × Addr)
def adr (ρ : Rho) (n : Nat) : Option Addr := (ρ[n]?).map (·.2)
mutual
def VR (K : Fg) (ρ : Rho) (H : Hp) : EV → V → Prop
  | .non, v => v = .non
  | .bl b, v => v = .bl b
  | .int i, v => v = .int i
  | .str x, v => v = .str x
  | .ref n, v => ∃ a, adr ρ n = some a ∧ v = .ref a
  | .ty n, v => v = .ty n
  | .tup xs, v => ∃ a vs, v = .ref a ∧ H a = some (.tup vs) ∧ VRs K ρ H xs vs
def VRs (K : Fg) (ρ : Rho) (H : Hp) : List EV → List V → Prop
  | [], vs => vs = []
  | x :: xs, vs => ∃ v r, vs = v :: r ∧ VR K ρ H x v ∧ VRs K ρ H xs r
end
structure Ext0 (K : Fg) (ρ ρ' : Rho) (H H' : Hp) : Prop where
  pre : ∃ t, ρ' = ρ ++ t
  tup : ∀ a xs, H a = some (.tup xs) → H' a = some (.tup xs)
  frz : ∀ a o u, H a = some (.frz o u) → H' a = some (.frz o u)
structure Ext (K : Fg) (ρ ρ' : Rho) (H H' : Hp) : Prop extends Ext0 K ρ ρ' H H' where
  new : ∀ a, (true, a) ∈ ρ' → (true, a) ∈ ρ ∨ H a = none
  rest : ∀ a o, H a = some o → (true, a) ∉ ρ → H' a = some o
theorem Ext.refl (K : Fg) (ρ : Rho) (H : Hp) : Ext K ρ ρ H H :=
  ⟨⟨⟨[], by simp⟩, fun _ _ h => h, fun _ _ _ h => h⟩, fun _ h => .inl h, fun _ _ h _ => h⟩
theorem Ext.trans {K : Fg} {ρ ρ1 ρ2 : Rho} {H H1 H2 : Hp} (a : Ext K ρ ρ1 H H1) (b : Ext K ρ1 ρ2 H1 H2) : Ext K ρ ρ2 H H2 := by
  obtain ⟨t1, e1⟩ := a.pre
  obtain ⟨t2, e2⟩ := b.pre
  refine ⟨⟨⟨t1 ++ t2, by rw [e2, e1, List.append_assoc]⟩, fun x xs h => b.tup _ _ (a.tup _ _ h), fun x o u h => b.frz _ _ _ (a.frz _ _ _ h)⟩, fun x h => ?_, fun x o h hn => ?_⟩
  · rcases b.new x h with h1 | h1
    · exact a.new x h1
    · by_cases hx : (true, x) ∈ ρ
      · exact .inl hx
      · right
        cases q : H x with
        | none => rfl
        | some o =>
          have := a.rest x o q hx
          rw [h1] at this
          cases this
  · have h1 := a.rest x o h hn
    refine b.rest x o h1 fun hm => ?_
    rcases a.new x hm with z | z
    · exact hn z
    · rw [h] at z
      cases z
theorem Ext0.at {K : Fg} {ρ ρ' : Rho} {H H' : Hp} (e : Ext0 K ρ ρ' H H') {n : Nat} {a : Bool × Addr} (h : ρ[n]? = some a) : ρ'[n]? = some a := by
  obtain ⟨t, rfl⟩ := e.pre
  rw [List.getElem?_append_left (List.getElem?_eq_some_iff.mp h).1]
  exact h
theorem Ext0.get {K : Fg} {ρ ρ' : Rho} {H H' : Hp} (e : Ext0 K ρ ρ' H H') {n : Nat} {a : Addr} (h : adr ρ n = some a) : adr ρ' n = some a := by
  unfold adr at h ⊢
  obtain ⟨b, h1, h2⟩ := Option.map_eq_some_iff.mp h
  rw [e.at h1]
  exact congrArg some h2
theorem adr_of {ρ : Rho} {n : Nat} {b : Bool} {a : Addr} (h : ρ[n]? = some (b, a)) : adr ρ n = some a := by
  unfold adr
  rw [h]
  rfl
mutual
theorem VR.mono0 {K : Fg} {ρ ρ' : Rho} {H H' : Hp} (e : Ext0 K ρ ρ' H H') : ∀ (x : EV) (v : V), VR K ρ H x v → VR K ρ' H' x v
  | .non, v, h => by simp only [VR] at h ⊢; exact h
  | .bl b, v, h => by simp only [VR] at h ⊢; exact h
  | .int i, v, h => by simp only [VR] at h ⊢; exact h
  | .str s, v, h => by simp only [VR] at h ⊢; exact h
  | .ty n, v, h => by simp only [VR] at h ⊢; exact h
  | .ref n, v, h => by
    simp only [VR] at h ⊢
    obtain ⟨a, h1, h2⟩ := h
    exact ⟨a, e.get h1, h2⟩
  | .tup xs, v, h => by
    simp only [VR] at h ⊢
    obtain ⟨a, vs, h1, h2, h3⟩ := h
    exact ⟨a, vs, h1, e.tup _ _ h2, VRs.mono0 e xs vs h3⟩
theorem VRs.mono0 {K : Fg} {ρ ρ' : Rho} {H H' : Hp} (e : Ext0 K ρ ρ' H H') : ∀ (xs : List EV) (vs : List V), VRs K ρ H xs vs → VRs K ρ' H' xs vs
  | [], vs, h => by simp only [VRs] at h ⊢; exact h
  | x :: xs, vs, h => by
    simp only [VRs] at h ⊢
    obtain ⟨v, r, h1, h2, h3⟩ := h
    exact ⟨v, r, h1, VR.mono0 e x v h2, VRs.mono0 e xs r h3⟩
end
theorem VR.mono {K : Fg} {ρ ρ' : Rho} {H H' : Hp} (e : Ext K ρ ρ' H H') (x : EV) (v : V) (h : VR K ρ H x v) : VR K ρ' H' x v := VR.mono0 e.toExt0 x v h
theorem VRs.mono {K : Fg} {ρ ρ' : Rho} {H H' : Hp} (e : Ext K ρ ρ' H H') (x : List EV) (v : List V) (h : VRs K ρ H x v) : VRs K ρ' H' x v := VRs.mono0 e.toExt0 x v h
section
variable {K : Fg} {ρ : Rho} {H : Hp}
theorem vr_non {v : V} : VR K ρ H .non v ↔ v = .non := by simp only [VR]
theorem vr_bl {b : Bool} {v : V} : VR K ρ H (.bl b) v ↔ v = .bl b := by simp only [VR]
theorem vr_int {i : Int} {v : V} : VR K ρ H (.int i) v ↔ v = .int i := by simp only [VR]
theorem vr_str {i : Str} {v : V} : VR K ρ H (.str i) v ↔ v = .str i := by simp only [VR]
theorem vr_ty {n : String} {v : V} : VR K ρ H (.ty n) v ↔ v = .ty n := by simp only [VR]
theorem vr_ref {n : Nat} {v : V} : VR K ρ H (.ref n) v ↔ ∃ a, adr ρ n = some a ∧ v = .ref a := by simp only [VR]
theorem vr_tup {xs : List EV} {v : V} : VR K ρ H (.tup xs) v ↔ ∃ a vs, v = .ref a ∧ H a = some (.tup vs) ∧ VRs K ρ H xs vs := by simp only [VR]
theorem vrs_nil {vs : List V} : VRs K ρ H [] vs ↔ vs = [] := by simp only [VRs]
theorem vrs_cons {x : EV} {xs : List EV} {vs : List V} : VRs K ρ H (x :: xs) vs ↔ ∃ v r, vs = v :: r ∧ VR K ρ H x v ∧ VRs K ρ H xs r := by simp only [VRs]
theorem VRs.length : ∀ {xs : List EV} {vs : List V}, VRs K ρ H xs vs → xs.length = vs.length
  | [], vs, h => by rw [vrs_nil] at h; subst h; rfl
  | x :: xs, vs, h => by
    obtain ⟨v, r, rfl, _, h2⟩ := vrs_cons.mp h
    rw [List.length_cons, List.length_cons, VRs.length h2]
theorem VRs.get : ∀ {xs : List EV} {vs : List V} {i : Nat} {x : EV}, VRs K ρ H xs vs → xs[i]? = some x → ∃ v, vs[i]? = some v ∧ VR K ρ H x v
  | [], _, _, _, _, e => by simp at e
  | x :: xs, vs, i, y, h, e => by
    obtain ⟨v, r, rfl, h1, h2⟩ := vrs_cons.mp h
    cases i with
    | zero =>
      simp only [List.getElem?_cons_zero, Option.some.injEq] at e
      subst e
      exact ⟨v, rfl, h1⟩
    | succ i =>
      simp only [List.getElem?_cons_succ] at e ⊢
      exact VRs.get h2 e
theorem VRs.append : ∀ {xs ys : List EV} {vs us : List V}, VRs K ρ H xs vs → VRs K ρ H ys us → VRs K ρ H (xs ++ ys) (vs ++ us)
  | [], ys, vs, us, h, g => by rw [vrs_nil] at h; subst h; exact g
  | x :: xs, ys, vs, us, h, g => by
    obtain ⟨v, r, rfl, h1, h2⟩ := vrs_cons.mp h
    exact vrs_cons.mpr ⟨v, r ++ us, rfl, h1, VRs.append h2 g⟩
theorem VRs.one {x : EV} {v : V} (h : VR K ρ H x v) : VRs K ρ H [x] [v] := vrs_cons.mpr ⟨v, [], rfl, h, vrs_nil.mpr rfl⟩
theorem VRs.set {x : EV} {v : V} (hx : VR K ρ H x v) : ∀ {xs : List EV} {vs : List V} (i : Nat), VRs K ρ H xs vs → VRs K ρ H (xs.set i x) (vs.set i v)
  | [], vs, i, h => by rw [vrs_nil] at h; subst h; exact vrs_nil.mpr rfl
  | y :: xs, vs, i, h => by
    obtain ⟨u, r, rfl, h1, h2⟩ := vrs_cons.mp h
    cases i with
    | zero => exact vrs_cons.mpr ⟨v, r, rfl, hx, h2⟩
    | succ i => exact vrs_cons.mpr ⟨u, r.set i v, rfl, h1, VRs.set hx i h2⟩
theorem VRs.take : ∀ {xs : List EV} {vs : List V} (n : Nat), VRs K ρ H xs vs → VRs K ρ H (xs.take n) (vs.take n)
  | xs, vs, 0, h => by simp only [List.take_zero]; exact vrs_nil.mpr rfl
  | [], vs, n + 1, h => by rw [vrs_nil] at h; subst h; exact vrs_nil.mpr rfl
  | x :: xs, vs, n + 1, h => by
    obtain ⟨v, r, rfl, h1, h2⟩ := vrs_cons.mp h
    exact vrs_cons.mpr ⟨v, r.take n, rfl, h1, VRs.take n h2⟩
theorem VRs.drop : ∀ {xs : List EV} {vs : List V} (n : Nat), VRs K ρ H xs vs → VRs K ρ H (xs.drop n) (vs.drop n)
  | xs, vs, 0, h => h
  | [], vs, n + 1, h => by rw [vrs_nil] at h; subst h; exact vrs_nil.mpr rfl
  | x :: xs, vs, n + 1, h => by
    obtain ⟨v, r, rfl, h1, h2⟩ := vrs_cons.mp h
    exact VRs.drop n h2
theorem VRs.ints : ∀ (ns : List Int), VRs K ρ H (ns.map EV.int) (ns.map V.int)
  | [] => vrs_nil.mpr rfl
  | n :: ns => vrs_cons.mpr ⟨.int n, ns.map V.int, rfl, vr_int.mpr rfl, VRs.ints ns⟩
theorem VRs.of_ints : ∀ {ns : List Int} {vs : List V}, VRs K ρ H (ns.map EV.int) vs → vs = ns.map V.int
  | [], vs, h => vrs_nil.mp h
  | n :: ns, vs, h => by
    obtain ⟨v, r, rfl, h1, h2⟩ := vrs_cons.mp h
    rw [vr_int.mp h1, VRs.of_ints h2]
    rfl
end
structure Gx where
  K : Fg
  ct : Nat → Addr × List Str
def RoL (K : Fg) (H : Hp) (a : Addr) (xs : List V) : Prop :=
  (∃ o, H a = some (.frz o (.lst xs))) ∨
    ∃ (o : Obj) (its : Array Value) (n : Nat), K.lookup a = some o ∧ o.cls = .type "list" ∧ o.dict = none ∧ o.data = .seq its n ∧ its.size ≤ sizeLine ∧ Vals xs its.toList
theorem RoL.sq {K : Fg} {H : Hp} {a : Addr} {xs : List V} (h : RoL K H a xs) : SqL K H a xs := by
  rcases h with ⟨o, h⟩ | h
  · exact .inl (.inr ⟨o, h⟩)
  · exact .inr h
theorem RoL.mono {K : Fg} {ρ ρ' : Rho} {H H' : Hp} (e : Ext0 K ρ ρ' H H') {a : Addr} {xs : List V} (h : RoL K H a xs) : RoL K H' a xs := by
  rcases h with ⟨o, h⟩ | h
  · exact .inl ⟨o, e.frz _ _ _ h⟩
  · exact .inr h
def keyOf : EV → Option Key
  | .int i => some (.inl i)
  | .str x => some (.inr x)
  | _ => none
def keysOf : List EV → Option (List Key)
  | [] => some []
  | x :: xs => match keyOf x, keysOf xs with
    | some k, some ks => some (k :: ks)
    | _, _ => none
def tkeyOf : EV → Option (List Key)
  | .tup xs => keysOf xs
  | _ => none
def KR {κ : Type} (f : EV → Option κ) (R : EV → V → Prop) : List (EV × EV) → List (κ × V) → Prop
  | [], l => l = []
  | p :: ps, l => ∃ k v r, l = (k, v) :: r ∧ f p.1 = some k ∧ R p.2 v ∧ KR f R ps r
def FR (R : EV → V → Prop) : Option EV → Option V → Prop
  | some x, some v => R x v
  | none, none => True
  | _, _ => False
def DR (R : EV → V → Prop) (t : Bool) (kvs : List (EV × EV)) (u : HO) : Prop := match t with
  | false => ∃ l, u = .dK l ∧ KR keyOf R kvs l
  | true => ∃ l, u = .dT l ∧ KR tkeyOf R kvs l
def OR (G : Gx) (ρ : Rho) (H : Hp) : EO → Addr → Prop
  | .lst xs, a => ∃ vs, H a = some (.lst vs) ∧ VRs G.K ρ H xs vs
  | .ro xs, a => ∃ vs, RoL G.K H a vs ∧ VRs G.K ρ H xs vs
  | .dic t kvs, a => ∃ u, H a = some u ∧ DR (VR G.K ρ H) t kvs u
  | .lkd t kvs, a => ∃ f u, H a = some (.frz f u) ∧ DR (VR G.K ρ H) t kvs u
  | .obj c fs, a => ∃ dx l, H a = some (.ins (G.ct c).1 dx l) ∧ fs.length = (G.ct c).2.length ∧ l.length ≤ (fs.filter fun z => z.isSome).length ∧
      (∀ (i : Nat) (x : Option EV), fs[i]? = some x → ∀ m, (G.ct c).2[i]? = some m → FR (VR G.K ρ H) x (l.lookup m)) ∧ ∀ m, m ∉ (G.ct c).2 → l.lookup m = none
def EO.mu : EO → Bool
  | .ro _ => false
  | _ => true
structure HR (G : Gx) (ρ : Rho) (H : Hp) (eh : EH) : Prop where
  len : ρ.length = eh.length
  dis : ∀ (m n : Nat) (a : Addr), ρ[m]? = some (true, a) → ρ[n]? = some (true, a) → m = n
  obj : ∀ (n : Nat) (o : EO), eh[n]? = some o → ∃ a, ρ[n]? = some (o.mu, a) ∧ OR G ρ H o a
theorem KR.mono {κ : Type} {f : EV → Option κ} {R R' : EV → V → Prop} (h : ∀ x v, R x v → R' x v) : ∀ {ps : List (EV × EV)} {l : List (κ × V)}, KR f R ps l → KR f R' ps l
  | [], _, q => q
  | p :: ps, _, ⟨k, v, r, e, h1, h2, h3⟩ => ⟨k, v, r, e, h1, h _ _ h2, KR.mono h h3⟩
theorem FR.mono {R R' : EV → V → Prop} (h : ∀ x v, R x v → R' x v) : ∀ {x : Option EV} {v : Option V}, FR R x v → FR R' x v
  | some _, some _, q => h _ _ q
  | none, none, _ => trivial
  | some _, none, q => q.elim
  | none, some _, q => q.elim
theorem DR.mono {R R' : EV → V → Prop} (h : ∀ x v, R x v → R' x v) : ∀ {t : Bool} {kvs : List (EV × EV)} {u : HO}, DR R t kvs u → DR R' t kvs u
  | false, _, _, ⟨l, e, q⟩ => ⟨l, e, q.mono h⟩
  | true, _, _, ⟨l, e, q⟩ => ⟨l, e, q.mono h⟩
theorem DR.mt {R : EV → V → Prop} : ∀ {t : Bool} {kvs : List (EV × EV)} {u : HO}, DR R t kvs u → L2.Mut (some u)
  | false, _, _, ⟨l, e, q⟩ => by subst e; exact True.intro
  | true, _, _, ⟨l, e, q⟩ => by subst e; exact True.intro
theorem DR.ntup {R : EV → V → Prop} : ∀ {t : Bool} {kvs : List (EV × EV)} {u : HO}, DR R t kvs u → ∀ xs, u ≠ .tup xs
  | false, _, _, ⟨l, e, q⟩, _, z => by subst e; cases z
  | true, _, _, ⟨l, e, q⟩, _, z => by subst e; cases z
theorem DR.nfrz {R : EV → V → Prop} : ∀ {t : Bool} {kvs : List (EV × EV)} {u : HO}, DR R t kvs u → ∀ o v, u ≠ .frz o v
  | false, _, _, ⟨l, e, q⟩, _, _, z => by subst e; cases z
  | true, _, _, ⟨l, e, q⟩, _, _, z => by subst e; cases z
theorem OR.keep {G : Gx} {ρ ρ' : Rho} {H H' : Hp} (e : Ext0 G.K ρ ρ' H H') {o : EO} {a : Addr} (hb : o.mu = true → H' a = H a) (h : OR G ρ H o a) : OR G ρ' H' o a := by
  have m := fun x v => VR.mono0 (K := G.K) (ρ := ρ) (ρ' := ρ') (H := H) (H' := H') e x v
  cases o with
  | lst xs =>
    obtain ⟨vs, h1, h2⟩ := h
    exact ⟨vs, by rw [hb rfl]; exact h1, VRs.mono0 e _ _ h2⟩
  | ro xs =>
    obtain ⟨vs, h1, h2⟩ := h
    exact ⟨vs, h1.mono e, VRs.mono0 e _ _ h2⟩
  | dic t kvs =>
    obtain ⟨u, h1, h2⟩ := h
    exact ⟨u, by rw [hb rfl]; exact h1, h2.mono m⟩
  | lkd t kvs =>
    obtain ⟨f, u, h1, h2⟩ := h
    exact ⟨f, u, by rw [hb rfl]; exact h1, h2.mono m⟩
  | obj c fs =>
    obtain ⟨dx, l, h1, h2, h3, h4, h5⟩ := h
    exact ⟨dx, l, by rw [hb rfl]; exact h1, h2, h3, fun i x hx n hn => (h4 i x hx n hn).mono m, h5⟩
theorem OR.there {G : Gx} {ρ : Rho} {H : Hp} {o : EO} {a : Addr} (hm : o.mu = true) (h : OR G ρ H o a) : ∃ u, H a = some u ∧ ∀ xs, u ≠ .tup xs := by
  cases o with
  | lst xs =>
    obtain ⟨vs, h1, _⟩ := h
    exact ⟨_, h1, fun _ z => by cases z⟩
  | ro xs => cases hm
  | dic t kvs =>
    obtain ⟨u, h1, h2⟩ := h
    exact ⟨u, h1, h2.ntup⟩
  | lkd t kvs =>
    obtain ⟨f, u, h1, h2⟩ := h
    exact ⟨_, h1, fun _ z => by cases z⟩
  | obj c fs =>
    obtain ⟨dx, l, h1, _⟩ := h
    exact ⟨_, h1, fun _ z => by cases z⟩
theorem Ext.alloc {K : Fg} {ρ : Rho} {H : Hp} {p : Addr} (u : HO) (hp : H p = none) : Ext K ρ (ρ ++ [(true, p)]) H (upd H p u) where
  pre := ⟨[(true, p)], rfl⟩
  tup := fun a xs h => by rw [upd_ne (ne_of_none h hp)]; exact h
  frz := fun a o v h => by rw [upd_ne (ne_of_none h hp)]; exact h
  new := fun a h => by
    rcases List.mem_append.mp h with h | h
    · exact .inl h
    · have := List.mem_singleton.mp h
      cases this
      exact .inr hp
  rest := fun a o h _ => by rw [upd_ne (ne_of_none h hp)]; exact h
theorem Ext.side {K : Fg} {ρ : Rho} {H : Hp} {p : Addr} (u : HO) (hp : H p = none) : Ext K ρ ρ H (upd H p u) where
  pre := ⟨[], by simp⟩
  tup := fun a xs h => by rw [upd_ne (ne_of_none h hp)]; exact h
  frz := fun a o v h => by rw [upd_ne (ne_of_none h hp)]; exact h
  new := fun a h => .inl h
  rest := fun a o h _ => by rw [upd_ne (ne_of_none h hp)]; exact h
theorem Ext.write {K : Fg} {ρ : Rho} {H : Hp} {n : Nat} {p : Addr} {u0 : HO} (u : HO) (hn : ρ[n]? = some (true, p)) (h0 : H p = some u0) (ht : ∀ xs, u0 ≠ .tup xs) (hf : ∀ o v, u0 ≠ .frz o v) : Ext K ρ ρ H (upd H p u) where
  pre := ⟨[], by simp⟩
  tup := fun a xs h => by
    rw [upd_ne]
    · exact h
    · intro e
      subst e
      rw [h0] at h
      cases h
      exact ht _ rfl
  frz := fun a o v h => by
    rw [upd_ne]
    · exact h
    · intro e
      subst e
      rw [h0] at h
      cases h
      exact hf _ _ rfl
  new := fun a h => .inl h
  rest := fun a o h hx => by
    rw [upd_ne]
    · exact h
    · intro e
      subst e
      exact hx (List.mem_of_getElem? hn)
theorem Ext.mut {K : Fg} {ρ ρ' : Rho} {H H' : Hp} {p : Addr} {u : HO} (e : Ext K ρ ρ' H H') (hp : H p = none) : Ext K ρ ρ' H (upd H' p u) where
  pre := e.pre
  tup := fun a xs h => by rw [upd_ne (ne_of_none h hp)]; exact e.tup _ _ h
  frz := fun a o v h => by rw [upd_ne (ne_of_none h hp)]; exact e.frz _ _ _ h
  new := e.new
  rest := fun a o h hx => by rw [upd_ne (ne_of_none h hp)]; exact e.rest _ _ h hx
theorem Ext.push {K : Fg} {ρ ρ' : Rho} {H H' : Hp} {p : Addr} (e : Ext K ρ ρ' H H') (hp : H p = none) : Ext K ρ (ρ' ++ [(true, p)]) H H' where
  pre := by
    obtain ⟨t, ht⟩ := e.pre
    exact ⟨t ++ [(true, p)], by rw [ht, List.append_assoc]⟩
  tup := e.tup
  frz := e.frz
  new := fun a h => by
    rcases List.mem_append.mp h with h | h
    · exact e.new a h
    · have := List.mem_singleton.mp h
      cases this
      exact .inr hp
  rest := e.rest
theorem HR.ext {G : Gx} {ρ : Rho} {H : Hp} {eh : EH} (h : HR G ρ H eh) {H' : Hp} (e : Ext0 G.K ρ ρ H H') (hk : ∀ a, (true, a) ∈ ρ → H' a = H a) : HR G ρ H' eh where
  len := h.len
  dis := h.dis
  obj := fun n o ho => by
    obtain ⟨a, ha, hO⟩ := h.obj n o ho
    refine ⟨a, ha, hO.keep e fun hm => hk a ?_⟩
    rw [hm] at ha
    exact List.mem_of_getElem? ha
theorem HR.at {G : Gx} {ρ : Rho} {H : Hp} {eh : EH} (h : HR G ρ H eh) {a : Addr} (hm : (true, a) ∈ ρ) : ∃ (n : Nat) (o : EO), ρ[n]? = some (true, a) ∧ eh[n]? = some o ∧ o.mu = true ∧ OR G ρ H o a := by
  obtain ⟨n, hn⟩ := List.mem_iff_getElem?.mp hm
  have hl : n < eh.length := by
    rw [← h.len]
    exact (List.getElem?_eq_some_iff.mp hn).1
  obtain ⟨a', ha, hO⟩ := h.obj n _ (List.getElem?_eq_getElem hl)
  rw [hn] at ha
  simp only [Option.some.injEq, Prod.mk.injEq] at ha
  obtain ⟨h1, rfl⟩ := ha
  exact ⟨n, _, hn, List.getElem?_eq_getElem hl, h1.symm, hO⟩
theorem HR.fresh {G : Gx} {ρ : Rho} {H : Hp} {eh : EH} (h : HR G ρ H eh) {p : Addr} (hp : H p = none) : (true, p) ∉ ρ := fun hm => by
  obtain ⟨n, o, _, _, h1, h2⟩ := h.at hm
  obtain ⟨u, hu, _⟩ := h2.there h1
  rw [hp] at hu
  cases hu
theorem HR.side {G : Gx} {ρ : Rho} {H : Hp} {eh : EH} (h : HR G ρ H eh) {p : Addr} (u : HO) (hp : H p = none) : HR G ρ (upd H p u) eh :=
  h.ext (Ext.side u hp).toExt0 fun a ha => upd_ne fun e => h.fresh hp (e ▸ ha)
theorem HR.push {G : Gx} {ρ : Rho} {H : Hp} {eh : EH} (h : HR G ρ H eh) {p : Addr} {o : EO} (hp : (true, p) ∉ ρ) (hm : o.mu = true) (ho : OR G (ρ ++ [(true, p)]) H o p) : HR G (ρ ++ [(true, p)]) H (eh ++ [o]) where
  len := by simp [h.len]
  dis := fun m n a e1 e2 => by
    have key : ∀ (k : Nat), (ρ ++ [(true, p)])[k]? = some (true, a) → (ρ[k]? = some (true, a) ∧ a ≠ p) ∨ (k = ρ.length ∧ a = p) := by
      intro k hk
      have hl : k < (ρ ++ [(true, p)]).length := (List.getElem?_eq_some_iff.mp hk).1
      simp only [List.length_append, List.length_singleton] at hl
      by_cases hk2 : k < ρ.length
      · rw [List.getElem?_append_left hk2] at hk
        exact .inl ⟨hk, fun e => hp (e ▸ List.mem_of_getElem? hk)⟩
      · have : k = ρ.length := by omega
        subst this
        rw [List.getElem?_append_right (Nat.le_refl _), Nat.sub_self] at hk
        simp only [List.getElem?_cons_zero, Option.some.injEq, Prod.mk.injEq, true_and] at hk
        exact .inr ⟨rfl, hk.symm⟩
    rcases key m e1 with ⟨a3, a4⟩ | ⟨a1, a2⟩
    · rcases key n e2 with ⟨b3, b4⟩ | ⟨b1, b2⟩
      · exact h.dis m n a a3 b3
      · exact absurd b2 a4
    · rcases key n e2 with ⟨b3, b4⟩ | ⟨b1, b2⟩
      · exact absurd a2 b4
      · rw [a1, b1]
  obj := fun n z hz => by
    have hl : n < (eh ++ [o]).length := (List.getElem?_eq_some_iff.mp hz).1
    simp only [List.length_append, List.length_singleton] at hl
    by_cases hk2 : n < eh.length
    · rw [List.getElem?_append_left hk2] at hz
      obtain ⟨a, ha, hO⟩ := h.obj n z hz
      have e : Ext0 G.K ρ (ρ ++ [(true, p)]) H H := ⟨⟨[(true, p)], rfl⟩, fun _ _ q => q, fun _ _ _ q => q⟩
      exact ⟨a, e.at ha, hO.keep e fun _ => rfl⟩
    · have : n = eh.length := by omega
      subst this
      rw [List.getElem?_append_right (Nat.le_refl _), Nat.sub_self] at hz
      simp only [List.getElem?_cons_zero, Option.some.injEq] at hz
      subst hz
      refine ⟨p, ?_, ho⟩
      rw [List.getElem?_append_right (by rw [h.len]; exact Nat.le_refl _), h.len, Nat.sub_self, hm]
      rfl
theorem HR.alloc {G : Gx} {ρ : Rho} {H : Hp} {eh : EH} (h : HR G ρ H eh) {p : Addr} {u : HO} {o : EO} (hp : H p = none) (hm : o.mu = true) (ho : OR G (ρ ++ [(true, p)]) (upd H p u) o p) : HR G (ρ ++ [(true, p)]) (upd H p u) (eh ++ [o]) :=
  (h.side u hp).push (h.fresh hp) hm ho
theorem HR.write {G : Gx} {ρ : Rho} {H : Hp} {eh : EH} (h : HR G ρ H eh) {n : Nat} {p : Addr} {o' : EO} {u : HO} (hn : ρ[n]? = some (true, p)) (hm : o'.mu = true) (e : Ext G.K ρ ρ H (upd H p u))
    (ho : OR G ρ (upd H p u) o' p) : HR G ρ (upd H p u) (eh.set n o') where
  len := by simp [h.len]
  dis := h.dis
  obj := fun j z hz => by
    by_cases hj : n = j
    · subst hj
      have hl : n < eh.length := by
        have := (List.getElem?_eq_some_iff.mp hz).1
        simpa using this
      rw [List.getElem?_set_self hl] at hz
      cases hz
      exact ⟨p, by rw [hm]; exact hn, ho⟩
    · rw [List.getElem?_set_ne hj] at hz
      obtain ⟨a, ha, hO⟩ := h.obj j z hz
      refine ⟨a, ha, hO.keep e.toExt0 fun hmz => upd_ne fun ea => hj ?_⟩
      subst ea
      rw [hmz] at ha
      exact h.dis n j a hn ha
def SR (K : Fg) (ρ : Rho) (H : Hp) (es : ES) (σ : L2.St) : Prop := σ.length = es.length ∧ ∀ (i : Nat) (v : EV), es[i]? = some (some v) → ∃ u, σ[i]? = some (some u) ∧ VR K ρ H v u
structure Rel (G : Gx) (ρ : Rho) (σ : L2.St) (H : Hp) (es : ES) (eh : EH) : Prop where
  sl : SR G.K ρ H es σ
  hr : HR G ρ H eh
theorem SR.mono {K : Fg} {ρ ρ' : Rho} {H H' : Hp} {es : ES} {σ : L2.St} (e : Ext K ρ ρ' H H') (h : SR K ρ H es σ) : SR K ρ' H' es σ :=
  ⟨h.1, fun i v hv => by
    obtain ⟨u, h1, h2⟩ := h.2 i v hv
    exact ⟨u, h1, VR.mono e _ _ h2⟩⟩
theorem SR.set {K : Fg} {ρ : Rho} {H : Hp} {es : ES} {σ : L2.St} {v : EV} {u : V} (h : SR K ρ H es σ) (i : Nat) (hv : VR K ρ H v u) : SR K ρ H (es.set i (some v)) (σ.set i (some u)) := by
  refine ⟨by simp [h.1], fun j w hw => ?_⟩
  by_cases hj : i = j
  · subst hj
    have hi : i < es.length := by
      have := (List.getElem?_eq_some_iff.mp hw).1
      simpa using this
    rw [List.getElem?_set_self hi] at hw
    cases hw
    exact ⟨u, List.getElem?_set_self (by rw [h.1]; exact hi), hv⟩
  · rw [List.getElem?_set_ne hj] at hw ⊢
    exact h.2 j w hw
theorem SR.unset {K : Fg} {ρ : Rho} {H : Hp} {es : ES} {σ : L2.St} (h : SR K ρ H es σ) (i : Nat) : SR K ρ H (es.set i none) (σ.set i none) := by
  refine ⟨by simp [h.1], fun j w hw => ?_⟩
  by_cases hj : i = j
  · subst hj
    have hi : i < es.length := by
      have := (List.getElem?_eq_some_iff.mp hw).1
      simpa using this
    rw [List.getElem?_set_self hi] at hw
    cases hw
  · rw [List.getElem?_set_ne hj] at hw ⊢
    exact h.2 j w hw
def wip (es : ES) : List Nat → ES
  | [] => es
  | v :: vs => (wip es vs).set v none
theorem SR.wip {K : Fg} {ρ : Rho} {H : Hp} {es : ES} {σ : L2.St} (h : SR K ρ H es σ) : ∀ vs : List Nat, SR K ρ H (EE.wip es vs) (L2.wipe σ vs)
  | [] => h
  | v :: vs => (SR.wip h vs).unset v
theorem Rel.ext {G : Gx} {ρ ρ' : Rho} {σ : L2.St} {H H' : Hp} {es : ES} {eh eh' : EH} (r : Rel G ρ σ H es eh) (e : Ext G.K ρ ρ' H H') (h : HR G ρ' H' eh') : Rel G ρ' σ H' es eh' := ⟨r.sl.mono e, h⟩
end EE
set_option Elab.async false
set_option linter.all false
set_option maxRecDepth 100000
set_option maxHeartbeats 1000000
namespace EE
open PySem PySem.Spec PyProof.Rows L2
structure Exn where
  c : Nat
  fs : List EV
  deriving Inhabited
inductive Res (α : Type) where
  | ok (v : α) (h : EH) | er (x : Exn) (h : EH) | no
def Res.bind {α β : Type} (r : Res α) (k : α → EH → Res β) : Res β := match r with
  | .ok v h => k v h
  | .er x h => .er x h
  | .no => .no
@[simp] theorem bind_ok {α β : Type} (v : α) (h : EH) (k : α → EH → Res β) : (Res.ok v h).bind k = k v h := rfl
@[simp] theorem bind_er {α β : Type} (x : Exn) (h : EH) (k : α → EH → Res β) : (Res.er x h).bind k = .er x h := rfl
@[simp] theorem bind_no {α β : Type} (k : α → EH → Res β) : (Res.no).bind k = .no := rfl
inductive Flw where
  | nx (es : ES) | rt (v : EV) | bk (es : ES) | ct (es : ES)
inductive VF where
  | nx (σ : L2.St) | rt (v : V) | bk (σ : L2.St) | ct (σ : L2.St)
abbrev DE := ES → EH → Res EV
abbrev DT := ES → EH → Res Bool
abbrev DA := ES → EH → Res (List EV)
abbrev DS := ES → EH → Res Flw
abbrev D2 := EV → EV → EH → Res EV
abbrev D1 := EV → EH → Res EV
abbrev DL := List EV → EH → Res EV
def XR (G : Gx) (ρ : Rho) (H : Hp) (x : Exn) (c : Value) (own : Option Addr) : Prop :=
  c = .ref (G.ct x.c).1 ∧ match x.fs with
    | [] => own = none
    | y :: r => ∃ d vs, own = some d ∧ H d = some (.xd ((G.ct x.c).2.zip vs)) ∧ VRs G.K ρ H (y :: r) vs ∧ (G.ct x.c).2.length = (y :: r).length
def wr {α β : Type} (G : Gx) (R : Rho → Hp → α → β → Prop) (ρ : Rho) (H : Hp) (r : Res α) (Q : β → Hp → Prop) (E : XK) : Prop := match r with
  | .ok v h => ∀ ρ' H' u, Ext G.K ρ ρ' H H' → HR G ρ' H' h → R ρ' H' v u → Q u H'
  | .er x h => ∀ ρ' H' c own, Ext G.K ρ ρ' H H' → HR G ρ' H' h → XR G ρ' H' x c own → E c own H'
  | .no => False
theorem wr.mono {α β : Type} {G : Gx} {R : Rho → Hp → α → β → Prop} {ρ ρ1 : Rho} {H H1 : Hp} {r : Res α} {Q : β → Hp → Prop} {E : XK} (e : Ext G.K ρ ρ1 H H1) (h : wr G R ρ H r Q E) : wr G R ρ1 H1 r Q E := by
  cases r with
  | ok v h' => exact fun ρ' H' u e' hr q => h ρ' H' u (e.trans e') hr q
  | er x h' => exact fun ρ' H' c own e' hr q => h ρ' H' c own (e.trans e') hr q
  | no => exact h
def Sound {α β : Type} (G : Gx) (E : XK) (R : Rho → Hp → α → β → Prop) (t : L2.St → Hp → (β → Hp → Prop) → Prop) (d : ES → EH → Res α) : Prop :=
  ∀ ρ σ H es eh Q, Rel G ρ σ H es eh → wr G R ρ H (d es eh) Q E → t σ H Q
theorem Sound.bind {α β : Type} {G : Gx} {E : XK} {R : Rho → Hp → α → β → Prop} {t : L2.St → Hp → (β → Hp → Prop) → Prop} {d : ES → EH → Res α} (h : Sound G E R t d) {ρ : Rho} {σ : L2.St} {H : Hp} {es : ES} {eh : EH} (rel : Rel G ρ σ H es eh)
    {γ δ : Type} {R2 : Rho → Hp → γ → δ → Prop} {k : α → EH → Res γ} {Q2 : δ → Hp → Prop} (hw : wr G R2 ρ H ((d es eh).bind k) Q2 E) {Kt : β → Hp → Prop}
    (hk : ∀ ρ1 H1 v eh1 u, Ext G.K ρ ρ1 H H1 → Rel G ρ1 σ H1 es eh1 → R ρ1 H1 v u → wr G R2 ρ1 H1 (k v eh1) Q2 E → Kt u H1) : t σ H Kt := by
  refine h ρ σ H es eh Kt rel ?_
  cases q : d es eh with
  | ok v h' =>
    rw [q] at hw
    exact fun ρ' H' u e hr r => hk ρ' H' v h' u e (rel.ext e hr) r (hw.mono e)
  | er x h' =>
    rw [q] at hw
    exact hw
  | no =>
    rw [q] at hw
    exact hw
theorem Sound.bind0 {α β : Type} {G : Gx} {E : XK} {R : Rho → Hp → α → β → Prop} {t : L2.St → Hp → (β → Hp → Prop) → Prop} {d : ES → EH → Res α} (h : Sound G E R t d) {ρ0 ρ : Rho} {σ : L2.St} {H0 H : Hp} {es : ES} {eh : EH} (rel : Rel G ρ σ H es eh) (e0 : Ext G.K ρ0 ρ H0 H)
    {γ δ : Type} {R2 : Rho → Hp → γ → δ → Prop} {k : α → EH → Res γ} {Q2 : δ → Hp → Prop} (hw : wr G R2 ρ0 H0 ((d es eh).bind k) Q2 E) {Kt : β → Hp → Prop}
    (hk : ∀ ρ1 H1 v eh1 u, Ext G.K ρ ρ1 H H1 → Rel G ρ1 σ H1 es eh1 → R ρ1 H1 v u → wr G R2 ρ0 H0 (k v eh1) Q2 E → Kt u H1) : t σ H Kt := by
  refine h ρ σ H es eh Kt rel ?_
  cases q : d es eh with
  | ok v h' =>
    rw [q] at hw
    exact fun ρ' H' u e hr r => hk ρ' H' v h' u e (rel.ext e hr) r hw
  | er x h' =>
    rw [q] at hw
    exact fun ρ' H' c own e' hr q => hw ρ' H' c own (e0.trans e') hr q
  | no =>
    rw [q] at hw
    exact hw
abbrev RB : Rho → Hp → Bool → Bool → Prop := fun _ _ a b => a = b
abbrev SndE (G : Gx) (E : XK) (t : TE) (d : DE) : Prop := Sound G E (VR G.K) t d
abbrev SndT (G : Gx) (E : XK) (t : TT) (d : DT) : Prop := Sound G E RB t d
abbrev SndA (G : Gx) (E : XK) (t : TA) (d : DA) : Prop := Sound G E (VRs G.K) t d
def RF (G : Gx) (ρ : Rho) (H : Hp) : Flw → VF → Prop
  | .nx es, .nx σ => SR G.K ρ H es σ
  | .rt v, .rt u => VR G.K ρ H v u
  | .bk es, .bk σ => SR G.K ρ H es σ
  | .ct es, .ct σ => SR G.K ρ H es σ
  | _, _ => False
def qD (D : Ends) : VF → Hp → Prop
  | .nx σ, H => D.nx σ H
  | .rt v, H => D.rt v H
  | .bk σ, H => D.bk σ H
  | .ct σ, H => D.ct σ H
def SndS (G : Gx) (E : XK) (t : TS) (d : DS) : Prop := ∀ ρ σ H es eh D, Rel G ρ σ H es eh → wr G (RF G) ρ H (d es eh) (qD D) E → t D σ H
def Snd2 (G : Gx) (E : XK) (r : R2) (f : D2) : Prop := ∀ ρ H eh x y a b Q, HR G ρ H eh → VR G.K ρ H x a → VR G.K ρ H y b → wr G (VR G.K) ρ H (f x y eh) Q E → r a b H Q
def Snd1 (G : Gx) (E : XK) (r : V → Hp → VK → Prop) (f : D1) : Prop := ∀ ρ H eh x a Q, HR G ρ H eh → VR G.K ρ H x a → wr G (VR G.K) ρ H (f x eh) Q E → r a H Q
def SndL (G : Gx) (E : XK) (r : List V → Hp → VK → Prop) (f : DL) : Prop := ∀ ρ H eh xs as Q, HR G ρ H eh → VRs G.K ρ H xs as → wr G (VR G.K) ρ H (f xs eh) Q E → r as H Q
def SndM (G : Gx) (E : XK) (r : V → List V → Hp → VK → Prop) (f : EV → DL) : Prop := ∀ ρ H eh x a xs as Q, HR G ρ H eh → VR G.K ρ H x a → VRs G.K ρ H xs as → wr G (VR G.K) ρ H (f x xs eh) Q E → r a as H Q
def Res.orElse {α : Type} (r : Res α) (k : Unit → Res α) : Res α := match r with
  | .no => k ()
  | z => z
def d2or (f g : D2) : D2 := fun x y h => (f x y h).orElse fun _ => g x y h
def dLor (f g : DL) : DL := fun x h => (f x h).orElse fun _ => g x h
def dMor (f g : EV → DL) : EV → DL := fun x xs h => (f x xs h).orElse fun _ => g x xs h
theorem wr_or {α β : Type} {G : Gx} {R : Rho → Hp → α → β → Prop} {ρ : Rho} {H : Hp} {r : Res α} {k : Unit → Res α} {Q : β → Hp → Prop} {E : XK} (h : wr G R ρ H (r.orElse k) Q E) : wr G R ρ H r Q E ∨ wr G R ρ H (k ()) Q E := by
  cases r with
  | ok v h' => exact .inl h
  | er x h' => exact .inl h
  | no => exact .inr h
section
variable (X : Cx) (ct : Nat → Addr × List Str) (E : XK)
abbrev Cx.g (X : Cx) (ct : Nat → Addr × List Str) : Gx := ⟨X.K, ct⟩
def PEd (e : Expr) (d : DE) : Prop := ∃ t, PE X e t ∧ SndE ⟨X.K, ct⟩ E t d
def PTd (e : Expr) (d : DT) : Prop := ∃ t, PT X e t ∧ SndT ⟨X.K, ct⟩ E t d
def PWd (e : Expr) (d : DT) : Prop := ∃ t, PW X e t ∧ SndT ⟨X.K, ct⟩ E t d
def PAd (es : List Expr) (d : DA) : Prop := ∃ t, PA X es t ∧ SndA ⟨X.K, ct⟩ E t d
def PSd (s : Stmt) (d : DS) : Prop := ∃ t, PS X s t ∧ SndS ⟨X.K, ct⟩ E t d
def PSsd (s : List Stmt) (d : DS) : Prop := ∃ t, PSs X s t ∧ SndS ⟨X.K, ct⟩ E t d
def Opd (f : Value → Value → Sem Value) (d : D2) : Prop := ∃ r, OpR X f r ∧ Snd2 ⟨X.K, ct⟩ E r d
def Ixd (d : D2) : Prop := ∃ r, IxR X r ∧ Snd2 ⟨X.K, ct⟩ E r d
def Und (f : Value → Sem Value) (d : D1) : Prop := ∃ r, UnR X f r ∧ Snd1 ⟨X.K, ct⟩ E r d
def Cld (f : Value) (d : DL) : Prop := ∃ r, CallR X f r ∧ SndL ⟨X.K, ct⟩ E r d
def Mtd (id : String) (d : EV → DL) : Prop := ∃ r, MtR X id r ∧ SndM ⟨X.K, ct⟩ E r d
end
def dVar (i : Nat) : DE := fun es h => match es[i]? with
  | some (some v) => .ok v h
  | _ => .no
def dC (v : EV) : DE := fun _ h => .ok v h
def dOp (f : D2) (a b : DE) : DE := fun es h => (a es h).bind fun x h1 => (b es h1).bind fun y h2 => f x y h2
def dUn (f : D1) (a : DE) : DE := fun es h => (a es h).bind fun x h1 => f x h1
def dNil : DA := fun _ h => .ok [] h
def dCons (a : DE) (r : DA) : DA := fun es h => (a es h).bind fun x h1 => (r es h1).bind fun xs h2 => .ok (x :: xs) h2
def dCB (f : DL) (a : DA) : DE := fun es h => (a es h).bind fun xs h1 => f xs h1
def dTup (a : DA) : DE := fun es h => (a es h).bind fun xs h1 => if xs.length ≤ 100000 then .ok (.tup xs) h1 else .no
def dLst (a : DA) : DE := fun es h => (a es h).bind fun xs h1 => if xs.length ≤ 100000 then .ok (.ref h1.length) (h1 ++ [.lst xs]) else .no
def dB (a : DE) : DT := fun es h => (a es h).bind fun x h1 => match x with
  | .bl b => .ok b h1
  | _ => .no
def dAnd (a b : DT) : DT := fun es h => (a es h).bind fun c h1 => if c = true then b es h1 else .ok false h1
def dOr (a b : DT) : DT := fun es h => (a es h).bind fun c h1 => if c = true then .ok true h1 else b es h1
def dNot (a : DT) : DT := fun es h => (a es h).bind fun c h1 => .ok (!c) h1
def dAndV (a b : DE) : DE := fun es h => (a es h).bind fun x h1 => match x with
  | .bl c => if c = true then b es h1 else .ok (.bl false) h1
  | _ => .no
def dOrV (a b : DE) : DE := fun es h => (a es h).bind fun x h1 => match x with
  | .bl c => if c = true then .ok (.bl true) h1 else b es h1
  | _ => .no
def dNotV (a : DE) : DE := fun es h => (a es h).bind fun x h1 => match x with
  | .bl c => .ok (.bl (!c)) h1
  | _ => .no
def dIf (t : DT) (a b : DE) : DE := fun es h => (t es h).bind fun c h1 => if c = true then a es h1 else b es h1
section
variable {X : Cx} {ct : Nat → Addr × List Str} {E : XK} {G : Gx}
theorem sz5 {n : Nat} (h : n ≤ 100000) : n ≤ sizeLine := Nat.le_trans h (by decide)
theorem snd_var {i : Nat} : SndE G E (tVar i) (dVar i) := fun ρ σ H es eh Q rel h => by
  unfold dVar at h
  split at h
  · rename_i v hv
    obtain ⟨u, h1, h2⟩ := rel.sl.2 i v hv
    exact ⟨u, h1, h ρ H u (Ext.refl _ _ _) rel.hr h2⟩
  · exact h.elim
theorem snd_c {v : EV} {u : V} (hv : ∀ ρ H, VR G.K ρ H v u) : SndE G E (tC u) (dC v) := fun ρ σ H es eh Q rel h => h ρ H u (Ext.refl _ _ _) rel.hr (hv ρ H)
theorem snd_op {r : R2} {f : D2} {ta tb : TE} {a b : DE} (hr : Snd2 G E r f) (ha : SndE G E ta a) (hb : SndE G E tb b) : SndE G E (tOp r ta tb) (dOp f a b) := fun ρ σ H es eh Q rel h => by
  refine ha.bind rel h fun ρ1 H1 x eh1 u e1 rel1 v1 h1 => ?_
  refine hb.bind rel1 h1 fun ρ2 H2 y eh2 w e2 rel2 v2 h2 => ?_
  exact hr ρ2 H2 eh2 x y u w Q rel2.hr (v1.mono e2) v2 h2
theorem snd_un {r : V → Hp → VK → Prop} {f : D1} {ta : TE} {a : DE} (hr : Snd1 G E r f) (ha : SndE G E ta a) : SndE G E (tUn r ta) (dUn f a) := fun ρ σ H es eh Q rel h => by
  refine ha.bind rel h fun ρ1 H1 x eh1 u e1 rel1 v1 h1 => ?_
  exact hr ρ1 H1 eh1 x u Q rel1.hr v1 h1
theorem snd_nil : SndA G E tNil dNil := fun ρ σ H es eh Q rel h => h ρ H [] (Ext.refl _ _ _) rel.hr (vrs_nil.mpr rfl)
theorem snd_cons {ta : TE} {tr : TA} {a : DE} {r : DA} (ha : SndE G E ta a) (hr : SndA G E tr r) : SndA G E (tCons ta tr) (dCons a r) := fun ρ σ H es eh Q rel h => by
  refine ha.bind rel h fun ρ1 H1 x eh1 u e1 rel1 v1 h1 => ?_
  refine hr.bind rel1 h1 fun ρ2 H2 xs eh2 us e2 rel2 v2 h2 => ?_
  exact h2 ρ2 H2 (u :: us) (Ext.refl _ _ _) rel2.hr (vrs_cons.mpr ⟨u, us, rfl, v1.mono e2, v2⟩)
theorem snd_cb {r : List V → Hp → VK → Prop} {f : DL} {ta : TA} {a : DA} (hr : SndL G E r f) (ha : SndA G E ta a) : SndE G E (tCB r ta) (dCB f a) := fun ρ σ H es eh Q rel h => by
  refine ha.bind rel h fun ρ1 H1 x eh1 u e1 rel1 v1 h1 => ?_
  exact hr ρ1 H1 eh1 x u Q rel1.hr v1 h1
theorem snd_tup {ta : TA} {a : DA} (ha : SndA G E ta a) : SndE G E (tTup ta) (dTup a) := fun ρ σ H es eh Q rel h => by
  refine ha.bind rel h fun ρ1 H1 xs eh1 us e1 rel1 v1 h1 => ?_
  split at h1
  · rename_i hl
    refine ⟨by rw [← v1.length]; exact sz5 hl, fun p hp => ?_⟩
    exact h1 ρ1 _ _ (Ext.side _ hp) (rel1.hr.side _ hp) (vr_tup.mpr ⟨p, us, rfl, upd_same, VRs.mono (Ext.side _ hp) _ _ v1⟩)
  · exact h1.elim
theorem last_get {ρ : Rho} {p : Addr} {n : Nat} (h : ρ.length = n) : adr (ρ ++ [(true, p)]) n = some p := by
  unfold adr
  subst h
  rw [List.getElem?_append_right (Nat.le_refl _), Nat.sub_self]
  rfl
theorem new_lst {ρ : Rho} {H : Hp} {eh : EH} {xs : List EV} {us : List V} {Q : VK} (hr : HR G ρ H eh) (v : VRs G.K ρ H xs us) (h : wr G (VR G.K) ρ H (.ok (.ref eh.length) (eh ++ [.lst xs])) Q E) : ∀ p, H p = none → Q (.ref p) (upd H p (.lst us)) := fun p hp => by
  refine h (ρ ++ [(true, p)]) _ _ (Ext.alloc _ hp) (hr.alloc hp rfl ⟨us, upd_same, VRs.mono (Ext.alloc _ hp) _ _ v⟩) (vr_ref.mpr ⟨p, last_get hr.len, rfl⟩)
theorem snd_lst {ta : TA} {a : DA} (ha : SndA G E ta a) : SndE G E (tLst ta) (dLst a) := fun ρ σ H es eh Q rel h => by
  refine ha.bind rel h fun ρ1 H1 xs eh1 us e1 rel1 v1 h1 => ?_
  split at h1
  · rename_i hl
    exact ⟨by rw [← v1.length]; exact sz5 hl, new_lst rel1.hr v1 h1⟩
  · exact h1.elim
theorem snd_B {ta : TE} {a : DE} (ha : SndE G E ta a) : SndT G E (tB ta) (dB a) := fun ρ σ H es eh Q rel h => by
  refine ha.bind rel h fun ρ1 H1 x eh1 u e1 rel1 v1 h1 => ?_
  cases x with
  | bl b => exact ⟨b, vr_bl.mp v1, h1 ρ1 H1 b (Ext.refl _ _ _) rel1.hr rfl⟩
  | _ => exact h1.elim
theorem snd_and {ta tb : TT} {a b : DT} (ha : SndT G E ta a) (hb : SndT G E tb b) : SndT G E (tAnd ta tb) (dAnd a b) := fun ρ σ H es eh Q rel h => by
  refine ha.bind rel h fun ρ1 H1 x eh1 u e1 rel1 v1 h1 => ?_
  subst v1
  cases x with
  | true => exact iteT (hb ρ1 σ H1 es eh1 Q rel1 h1)
  | false => exact iteF (h1 ρ1 H1 false (Ext.refl _ _ _) rel1.hr rfl)
theorem snd_or {ta tb : TT} {a b : DT} (ha : SndT G E ta a) (hb : SndT G E tb b) : SndT G E (tOr ta tb) (dOr a b) := fun ρ σ H es eh Q rel h => by
  refine ha.bind rel h fun ρ1 H1 x eh1 u e1 rel1 v1 h1 => ?_
  subst v1
  cases x with
  | true => exact iteT (h1 ρ1 H1 true (Ext.refl _ _ _) rel1.hr rfl)
  | false => exact iteF (hb ρ1 σ H1 es eh1 Q rel1 h1)
theorem snd_not {ta : TT} {a : DT} (ha : SndT G E ta a) : SndT G E (tNot ta) (dNot a) := fun ρ σ H es eh Q rel h => by
  refine ha.bind rel h fun ρ1 H1 x eh1 u e1 rel1 v1 h1 => ?_
  subst v1
  exact h1 ρ1 H1 _ (Ext.refl _ _ _) rel1.hr rfl
theorem snd_andV {ta tb : TE} {a b : DE} (ha : SndE G E ta a) (hb : SndE G E tb b) : SndE G E (tAndV ta tb) (dAndV a b) := fun ρ σ H es eh Q rel h => by
  refine ha.bind rel h fun ρ1 H1 x eh1 u e1 rel1 v1 h1 => ?_
  cases x with
  | bl c =>
    refine ⟨c, vr_bl.mp v1, ?_⟩
    cases c with
    | true => exact iteT (hb ρ1 σ H1 es eh1 Q rel1 h1)
    | false => exact iteF (h1 ρ1 H1 _ (Ext.refl _ _ _) rel1.hr (vr_bl.mpr rfl))
  | _ => exact h1.elim
theorem snd_orV {ta tb : TE} {a b : DE} (ha : SndE G E ta a) (hb : SndE G E tb b) : SndE G E (tOrV ta tb) (dOrV a b) := fun ρ σ H es eh Q rel h => by
  refine ha.bind rel h fun ρ1 H1 x eh1 u e1 rel1 v1 h1 => ?_
  cases x with
  | bl c =>
    refine ⟨c, vr_bl.mp v1, ?_⟩
    cases c with
    | true => exact iteT (h1 ρ1 H1 _ (Ext.refl _ _ _) rel1.hr (vr_bl.mpr rfl))
    | false => exact iteF (hb ρ1 σ H1 es eh1 Q rel1 h1)
  | _ => exact h1.elim
theorem snd_notV {ta : TE} {a : DE} (ha : SndE G E ta a) : SndE G E (tNotV ta) (dNotV a) := fun ρ σ H es eh Q rel h => by
  refine ha.bind rel h fun ρ1 H1 x eh1 u e1 rel1 v1 h1 => ?_
  cases x with
  | bl c => exact ⟨c, vr_bl.mp v1, h1 ρ1 H1 _ (Ext.refl _ _ _) rel1.hr (vr_bl.mpr rfl)⟩
  | _ => exact h1.elim
theorem snd_if {tt : TT} {ta tb : TE} {t : DT} {a b : DE} (ht : SndT G E tt t) (ha : SndE G E ta a) (hb : SndE G E tb b) : SndE G E (tIf tt ta tb) (dIf t a b) := fun ρ σ H es eh Q rel h => by
  refine ht.bind rel h fun ρ1 H1 x eh1 u e1 rel1 v1 h1 => ?_
  subst v1
  cases x with
  | true => exact iteT (ha ρ1 σ H1 es eh1 Q rel1 h1)
  | false => exact iteF (hb ρ1 σ H1 es eh1 Q rel1 h1)
theorem xe_var (i : Nat) {x : Str} {pos : Pos} (hN : X.N[i]? = some x := by rfl) (hv : Vis X.env.scope x := by first | exact Or.inl rfl | exact Or.inr (Or.inl rfl) | exact Or.inr (Or.inr rfl)) (hd : (x == ("__debug__" : Str)) = false := by decide)
    (hcd : (x == ("__classdict__" : Str)) = false := by decide) : PEd X ct E (.Name x pos) (dVar i) := ⟨_, pe_var hN hv hd hcd, snd_var⟩
theorem xe_int {i j pos} : PEd X ct E (.Constant (.int i) j pos) (dC (.int i)) := ⟨_, pe_int, snd_c fun _ _ => vr_int.mpr rfl⟩
theorem xe_bl {b j pos} : PEd X ct E (.Constant (.bool b) j pos) (dC (.bl b)) := ⟨_, pe_bl, snd_c fun _ _ => vr_bl.mpr rfl⟩
theorem xe_non {j pos} : PEd X ct E (.Constant .none j pos) (dC .non) := ⟨_, pe_non, snd_c fun _ _ => vr_non.mpr rfl⟩
theorem xe_str {x j pos} : PEd X ct E (.Constant (.str x) j pos) (dC (.str x)) := ⟨_, pe_str, snd_c fun _ _ => vr_str.mpr rfl⟩
theorem xe_globI {x : Str} {pos : Pos} {i : Int} (hg : Gl X x) (hm : ∃ t, X.mg x = some (.int i t)) (hd : (x == ("__debug__" : Str)) = false := by decide) : PEd X ct E (.Name x pos) (dC (.int i)) := by
  obtain ⟨t, hm⟩ := hm
  exact ⟨_, pe_glob (v := .int i) hg hm ⟨t, rfl⟩ hd, snd_c fun _ _ => vr_int.mpr rfl⟩
theorem xe_globS {x : Str} {pos : Pos} {i : Str} (hg : Gl X x) (hm : ∃ t, X.mg x = some (.str i t)) (hd : (x == ("__debug__" : Str)) = false := by decide) : PEd X ct E (.Name x pos) (dC (.str i)) := by
  obtain ⟨t, hm⟩ := hm
  exact ⟨_, pe_glob (v := .str i) hg hm ⟨t, rfl⟩ hd, snd_c fun _ _ => vr_str.mpr rfl⟩
variable {a b c : Expr} {es rest : List Expr} {pos : Pos} {da db dc : DE} {dt du : DT} {dr : DA}
theorem xe_op {op : Operator} {f : D2} (ho : Opd X ct E (binaryOp op) f) (ha : PEd X ct E a da) (hb : PEd X ct E b db) : PEd X ct E (.BinOp a op b pos) (dOp f da db) := by
  obtain ⟨r, h1, h2⟩ := ho
  obtain ⟨ta, a1, a2⟩ := ha
  obtain ⟨tb, b1, b2⟩ := hb
  exact ⟨_, pe_op h1 a1 b1, snd_op h2 a2 b2⟩
theorem xe_un {op : UnaryOp} {f : D1} (ho : Und X ct E (unaryOp op) f) (ha : PEd X ct E a da) : PEd X ct E (.UnaryOp op a pos) (dUn f da) := by
  obtain ⟨r, h1, h2⟩ := ho
  obtain ⟨ta, a1, a2⟩ := ha
  exact ⟨_, pe_un h1 a1, snd_un h2 a2⟩
theorem xe_ix {f : D2} (ho : Ixd X ct E f) (ha : PEd X ct E a da) (hb : PEd X ct E b db) (hs : PlainIx b := by exact fun _ _ => rfl) : PEd X ct E (.Subscript a b pos) (dOp f da db) := by
  obtain ⟨r, h1, h2⟩ := ho
  obtain ⟨ta, a1, a2⟩ := ha
  obtain ⟨tb, b1, b2⟩ := hb
  exact ⟨_, pe_ix h1 a1 b1 hs, snd_op h2 a2 b2⟩
theorem xa_nil : PAd X ct E [] dNil := ⟨_, pa_nil, snd_nil⟩
theorem xe_tup {x1} (h : PAd X ct E es dr) : PEd X ct E (.Tuple es x1 pos) (dTup dr) := by
  obtain ⟨t, h1, h2⟩ := h
  exact ⟨_, pe_tup h1, snd_tup h2⟩
theorem xe_lst (h : PAd X ct E es dr) : PEd X ct E (.List es pos) (dLst dr) := by
  obtain ⟨t, h1, h2⟩ := h
  exact ⟨_, pe_lst h1, snd_lst h2⟩
theorem xt_val {e : Expr} {d : DE} (h : PEd X ct E e d) (he : ∀ whole, isTrue e X.env whole = (do let v ← whole; standAt e.pos; holding [v] (truthy v)) := by intro _; rfl) : PTd X ct E e (dB d) := by
  obtain ⟨t, h1, h2⟩ := h
  exact ⟨_, pt_val h1 he, snd_B h2⟩
theorem xw_and1 (h : PTd X ct E a dt) : PWd X ct E (.BoolOp .And [a] pos) dt := by
  obtain ⟨t, h1, h2⟩ := h
  exact ⟨_, pw_and1 h1, h2⟩
theorem xw_or1 (h : PTd X ct E a dt) : PWd X ct E (.BoolOp .Or [a] pos) dt := by
  obtain ⟨t, h1, h2⟩ := h
  exact ⟨_, pw_or1 h1, h2⟩
theorem xw_and (h : PTd X ct E a dt) (g : PWd X ct E (.BoolOp .And (b :: rest) pos) du) : PWd X ct E (.BoolOp .And (a :: b :: rest) pos) (dAnd dt du) := by
  obtain ⟨t, h1, h2⟩ := h
  obtain ⟨u, g1, g2⟩ := g
  exact ⟨_, pw_and h1 g1, snd_and h2 g2⟩
theorem xw_or (h : PTd X ct E a dt) (g : PWd X ct E (.BoolOp .Or (b :: rest) pos) du) : PWd X ct E (.BoolOp .Or (a :: b :: rest) pos) (dOr dt du) := by
  obtain ⟨t, h1, h2⟩ := h
  obtain ⟨u, g1, g2⟩ := g
  exact ⟨_, pw_or h1 g1, snd_or h2 g2⟩
theorem xt_w (h : PWd X ct E a dt) : PTd X ct E a dt := by
  obtain ⟨t, h1, h2⟩ := h
  exact ⟨_, h1.pt, h2⟩
theorem xt_not (h : PTd X ct E a dt) : PTd X ct E (.UnaryOp .Not a pos) (dNot dt) := by
  obtain ⟨t, h1, h2⟩ := h
  exact ⟨_, pt_not h1, snd_not h2⟩
theorem xe_one {op} (h : PEd X ct E a da) : PEd X ct E (.BoolOp op [a] pos) da := by
  obtain ⟨t, h1, h2⟩ := h
  exact ⟨_, pe_one h1, h2⟩
theorem xe_and (h : PEd X ct E a da) (g : PEd X ct E (.BoolOp .And (b :: rest) pos) db) : PEd X ct E (.BoolOp .And (a :: b :: rest) pos) (dAndV da db) := by
  obtain ⟨t, h1, h2⟩ := h
  obtain ⟨u, g1, g2⟩ := g
  exact ⟨_, pe_and h1 g1, snd_andV h2 g2⟩
theorem xe_or (h : PEd X ct E a da) (g : PEd X ct E (.BoolOp .Or (b :: rest) pos) db) : PEd X ct E (.BoolOp .Or (a :: b :: rest) pos) (dOrV da db) := by
  obtain ⟨t, h1, h2⟩ := h
  obtain ⟨u, g1, g2⟩ := g
  exact ⟨_, pe_or h1 g1, snd_orV h2 g2⟩
theorem xe_not (h : PEd X ct E a da) : PEd X ct E (.UnaryOp .Not a pos) (dNotV da) := by
  obtain ⟨t, h1, h2⟩ := h
  exact ⟨_, pe_not h1, snd_notV h2⟩
theorem xe_if (h : PTd X ct E c dt) (ha : PEd X ct E a da) (hb : PEd X ct E b db) : PEd X ct E (.IfExp c a b pos) (dIf dt da db) := by
  obtain ⟨t, h1, h2⟩ := h
  obtain ⟨ta, a1, a2⟩ := ha
  obtain ⟨tb, b1, b2⟩ := hb
  exact ⟨_, pe_ifExp h1 a1 b1, snd_if h2 a2 b2⟩
end
end EE
set_option Elab.async false
set_option linter.all false
set_option maxRecDepth 100000
set_option maxHeartbeats 1000000
namespace EE
open PySem PySem.Spec PyProof.Rows L2
def lstAt (h : EH) (n : Nat) : Option (List EV) := match h[n]? with
  | some (.lst xs) => some xs
  | some (.ro xs) => some xs
  | _ => none
def mutAt (h : EH) (n : Nat) : Option (List EV) := match h[n]? with
  | some (.lst xs) => some xs
  | _ => none
def dicAt (h : EH) (n : Nat) : Option (Bool × List (EV × EV)) := match h[n]? with
  | some (.dic t xs) => some (t, xs)
  | some (.lkd t xs) => some (t, xs)
  | _ => none
section
variable {G : Gx} {ρ : Rho} {H : Hp} {eh : EH} {n : Nat}
theorem lst_of (hr : HR G ρ H eh) {xs : List EV} (h : lstAt eh n = some xs) : ∃ a vs, adr ρ n = some a ∧ SqL G.K H a vs ∧ VRs G.K ρ H xs vs := by
  unfold lstAt at h
  split at h
  · rename_i ys e
    cases h
    obtain ⟨a, h1, vs, h2, h3⟩ := hr.obj n _ e
    exact ⟨a, vs, adr_of h1, SqL.of h2, h3⟩
  · rename_i ys e
    cases h
    obtain ⟨a, h1, vs, h2, h3⟩ := hr.obj n _ e
    exact ⟨a, vs, adr_of h1, h2.sq, h3⟩
  · cases h
theorem mut_of (hr : HR G ρ H eh) {xs : List EV} (h : mutAt eh n = some xs) : ∃ a vs, adr ρ n = some a ∧ H a = some (.lst vs) ∧ VRs G.K ρ H xs vs ∧ ρ[n]? = some (true, a) := by
  unfold mutAt at h
  split at h
  · rename_i ys e
    cases h
    obtain ⟨a, h1, vs, h2, h3⟩ := hr.obj n _ e
    exact ⟨a, vs, adr_of h1, h2, h3, h1⟩
  · cases h
end
def fInt (c : Int → Int → Bool) (g : Int → Int → EV) : D2 := fun x y h => match x, y with
  | .int i, .int j => if c i j = true then .ok (g i j) h else .no
  | _, _ => .no
def fAddI : D2 := fInt (fun _ _ => true) fun i j => .int (i + j)
def fSub : D2 := fInt (fun _ _ => true) fun i j => .int (i - j)
def fMulI : D2 := fInt (fun i j => (decide (-(2 ^ 64) < i) && decide (i < 2 ^ 64)) || (decide (-(2 ^ 64) < j) && decide (j < 2 ^ 64))) fun i j => .int (i * j)
def fMod : D2 := fInt (fun _ j => decide (0 < j)) fun i j => .int (i % j)
def fDiv : D2 := fInt (fun _ j => decide (0 < j) && decide (j < 2 ^ 64)) fun i j => .int (i / j)
def fPow : D2 := fInt (fun i j => decide (0 ≤ j) && decide (j ≤ 64) && decide (i.natAbs < 2 ^ 64)) fun i j => .int (i ^ j.toNat)
def fLt : D2 := fInt (fun _ _ => true) fun i j => .bl (decide (i < j))
def fLe : D2 := fInt (fun _ _ => true) fun i j => .bl (decide (i ≤ j))
def fGt : D2 := fInt (fun _ _ => true) fun i j => .bl (decide (j < i))
def fGe : D2 := fInt (fun _ _ => true) fun i j => .bl (decide (j ≤ i))
section
variable {X : Cx} {ct : Nat → Addr × List Str} {E : XK} {G : Gx}
theorem snd_I {c : Int → Int → Bool} {C : Int → Int → Prop} {g : Int → Int → EV} {gV : Int → Int → V} (hc : ∀ i j, c i j = true → C i j) (hg : ∀ ρ H i j, VR G.K ρ H (g i j) (gV i j)) : Snd2 G E (rI C gV) (fInt c g) := fun ρ H eh x y a b Q hr hx hy h => by
  unfold fInt at h
  split at h
  · rename_i i j
    split at h
    · rename_i hcc
      exact ⟨i, j, vr_int.mp hx, vr_int.mp hy, hc i j hcc, h ρ H _ (Ext.refl _ _ _) hr (hg _ _ _ _)⟩
    · exact h.elim
  · exact h.elim
theorem snd_I0 {c : Int → Int → Bool} {g : Int → Int → EV} {gV : Int → Int → V} (hg : ∀ ρ H i j, VR G.K ρ H (g i j) (gV i j)) : Snd2 G E (rI0 gV) (fInt c g) := fun ρ H eh x y a b Q hr hx hy h => by
  unfold fInt at h
  split at h
  · rename_i i j
    split at h
    · rename_i hcc
      exact ⟨i, j, vr_int.mp hx, vr_int.mp hy, h ρ H _ (Ext.refl _ _ _) hr (hg _ _ _ _)⟩
    · exact h.elim
  · exact h.elim
theorem OpR.or {f : Value → Value → Sem Value} {r r' : R2} (h : OpR X f r) (h' : OpR X f r') : OpR X f (fun x y H Q => r x y H Q ∨ r' x y H Q) := by
  intro pins s σ H x y v u Q I rx ry q
  rcases q with q | q
  · exact h pins s σ H x y v u Q I rx ry q
  · exact h' pins s σ H x y v u Q I rx ry q
theorem Opd.or {f : Value → Value → Sem Value} {d d' : D2} (h : Opd X ct E f d) (h' : Opd X ct E f d') : Opd X ct E f (d2or d d') := by
  obtain ⟨r, h1, h2⟩ := h
  obtain ⟨r', h1', h2'⟩ := h'
  refine ⟨_, OpR.or h1 h1', fun ρ H eh x y a b Q hr hx hy h => ?_⟩
  rcases wr_or h with h | h
  · exact .inl (h2 ρ H eh x y a b Q hr hx hy h)
  · exact .inr (h2' ρ H eh x y a b Q hr hx hy h)
theorem Ixd.or {d d' : D2} (h : Ixd X ct E d) (h' : Ixd X ct E d') : Ixd X ct E (d2or d d') := by
  obtain ⟨r, h1, h2⟩ := h
  obtain ⟨r', h1', h2'⟩ := h'
  refine ⟨_, h1.or h1', fun ρ H eh x y a b Q hr hx hy h => ?_⟩
  rcases wr_or h with h | h
  · exact .inl (h2 ρ H eh x y a b Q hr hx hy h)
  · exact .inr (h2' ρ H eh x y a b Q hr hx hy h)
theorem Cld.or {f : Value} {d d' : DL} (h : Cld X ct E f d) (h' : Cld X ct E f d') : Cld X ct E f (dLor d d') := by
  obtain ⟨r, h1, h2⟩ := h
  obtain ⟨r', h1', h2'⟩ := h'
  refine ⟨_, h1.or h1', fun ρ H eh xs as Q hr hx h => ?_⟩
  rcases wr_or h with h | h
  · exact .inl (h2 ρ H eh xs as Q hr hx h)
  · exact .inr (h2' ρ H eh xs as Q hr hx h)
theorem Mtd.or {id : String} {d d' : EV → DL} (h : Mtd X ct E id d) (h' : Mtd X ct E id d') : Mtd X ct E id (dMor d d') := by
  obtain ⟨r, h1, h2⟩ := h
  obtain ⟨r', h1', h2'⟩ := h'
  refine ⟨_, h1.or h1', fun ρ H eh x a xs as Q hr hx hxs h => ?_⟩
  rcases wr_or h with h | h
  · exact .inl (h2 ρ H eh x a xs as Q hr hx hxs h)
  · exact .inr (h2' ρ H eh x a xs as Q hr hx hxs h)
theorem pow64 : (2 : Int) ^ 64 = 18446744073709551616 := by decide
theorem o_addI : Opd X ct E (binaryOp .Add) fAddI := ⟨_, op_add, snd_I0 fun _ _ _ _ => vr_int.mpr rfl⟩
theorem o_sub : Opd X ct E (binaryOp .Sub) fSub := ⟨_, op_sub, snd_I0 fun _ _ _ _ => vr_int.mpr rfl⟩
theorem o_mulI : Opd X ct E (binaryOp .Mult) fMulI := ⟨_, op_mul, snd_I (fun i j h => by
  simp only [Bool.or_eq_true, Bool.and_eq_true, decide_eq_true_eq] at h
  exact h) fun _ _ _ _ => vr_int.mpr rfl⟩
theorem o_mod : Opd X ct E (binaryOp .Mod) fMod := ⟨_, op_mod, snd_I (fun i j h => of_decide_eq_true h) fun _ _ _ _ => vr_int.mpr rfl⟩
theorem o_div : Opd X ct E (binaryOp .FloorDiv) fDiv := ⟨_, op_fdivW, snd_I (fun i j h => by
  simp only [Bool.and_eq_true, decide_eq_true_eq] at h
  refine wide_div (b := 64) h.1 ?_ (by decide) (by decide)
  have := h.2
  rw [pow64] at this
  have e : (2 : Nat) ^ 64 = 18446744073709551616 := by decide
  rw [e]
  omega) fun _ _ _ _ => vr_int.mpr rfl⟩
theorem o_pow : Opd X ct E (binaryOp .Pow) fPow := ⟨_, op_pow, snd_I (fun i j h => by
  simp only [Bool.and_eq_true, decide_eq_true_eq] at h
  exact ⟨h.1.1, by omega, h.2⟩) fun _ _ _ _ => vr_int.mpr rfl⟩
theorem o_lt : Opd X ct E (compareOp .Lt) fLt := ⟨_, op_lt, snd_I0 fun _ _ _ _ => vr_bl.mpr rfl⟩
theorem o_le : Opd X ct E (compareOp .LtE) fLe := ⟨_, op_le, snd_I0 fun _ _ _ _ => vr_bl.mpr rfl⟩
theorem o_gt : Opd X ct E (compareOp .Gt) fGt := ⟨_, op_gt, snd_I0 fun _ _ _ _ => vr_bl.mpr rfl⟩
theorem o_ge : Opd X ct E (compareOp .GtE) fGe := ⟨_, op_ge, snd_I0 fun _ _ _ _ => vr_bl.mpr rfl⟩
def fNeg : D1 := fun x h => match x with
  | .int i => .ok (.int (-i)) h
  | _ => .no
theorem o_neg : Und X ct E (unaryOp .USub) fNeg := ⟨_, un_neg, fun ρ H eh x a Q hr hx h => by
  unfold fNeg at h
  split at h
  · rename_i i
    exact ⟨i, vr_int.mp hx, h ρ H _ (Ext.refl _ _ _) hr (vr_int.mpr rfl)⟩
  · exact h.elim⟩
def fCat : D2 := fun x y h => match x, y with
  | .ref m, .ref n => match mutAt h m, mutAt h n with
    | some xs, some ys => if xs.length + ys.length ≤ 100000 then .ok (.ref h.length) (h ++ [.lst (xs ++ ys)]) else .no
    | _, _ => .no
  | _, _ => .no
theorem o_cat : Opd X ct E (binaryOp .Add) fCat := ⟨_, op_cat, fun ρ H eh x y a b Q hr hx hy h => by
  unfold fCat at h
  split at h
  · rename_i m n
    split at h
    · rename_i xs ys e1 e2
      split at h
      · rename_i hl
        obtain ⟨a1, vs, g1, g2, g3, _⟩ := mut_of hr e1
        obtain ⟨a2, us, k1, k2, k3, _⟩ := mut_of hr e2
        obtain ⟨a', q1, rfl⟩ := vr_ref.mp hx
        obtain ⟨b', q2, rfl⟩ := vr_ref.mp hy
        rw [g1] at q1; cases q1
        rw [k1] at q2; cases q2
        refine ⟨a1, a2, vs, us, rfl, rfl, g2, k2, ?_, new_lst hr (g3.append k3) h⟩
        rw [← g3.length, ← k3.length]
        exact sz5 hl
      · exact h.elim
    · exact h.elim
  · exact h.elim⟩
def fRep : D2 := fun x y h => match x, y with
  | .ref m, .int k => match mutAt h m with
    | some xs => if decide (0 ≤ k) && decide (k ≤ 1000) && decide (xs.length ≤ 10) = true then .ok (.ref h.length) (h ++ [.lst (List.replicate k.toNat xs).flatten]) else .no
    | _ => .no
  | _, _ => .no
theorem VRs.rep {K : Fg} {ρ : Rho} {H : Hp} {xs : List EV} {vs : List V} (h : VRs K ρ H xs vs) : ∀ n : Nat, VRs K ρ H (List.replicate n xs).flatten (List.replicate n vs).flatten
  | 0 => vrs_nil.mpr rfl
  | n + 1 => by
    rw [List.replicate_succ, List.replicate_succ, List.flatten_cons, List.flatten_cons]
    exact h.append (VRs.rep h n)
theorem o_rep : Opd X ct E (binaryOp .Mult) fRep := ⟨_, op_rep, fun ρ H eh x y a b Q hr hx hy h => by
  unfold fRep at h
  split at h
  · rename_i m k
    split at h
    · rename_i xs e1
      split at h
      · rename_i hl
        simp only [Bool.and_eq_true, decide_eq_true_eq] at hl
        obtain ⟨⟨l1, l2⟩, l3⟩ := hl
        obtain ⟨a1, vs, g1, g2, g3, _⟩ := mut_of hr e1
        obtain ⟨a', q1, rfl⟩ := vr_ref.mp hx
        rw [g1] at q1; cases q1
        refine ⟨a1, k, vs, rfl, vr_int.mp hy, g2, by omega, by omega, ?_, new_lst hr (g3.rep _) h⟩
        rw [← g3.length]
        have h1 : k.toNat ≤ 1000 := by omega
        exact sz5 (Nat.le_trans (Nat.mul_le_mul l3 h1) (by decide))
      · exact h.elim
    · exact h.elim
  · exact h.elim⟩
def fIxL : D2 := fun x y h => match x, y with
  | .ref m, .int i => match lstAt h m with
    | some xs => match atI xs i with
      | some v => .ok v h
      | none => .no
    | none => .no
  | _, _ => .no
theorem atI_vr {K : Fg} {ρ : Rho} {H : Hp} {xs : List EV} {vs : List V} (h : VRs K ρ H xs vs) {i : Int} {x : EV} (e : atI xs i = some x) : ∃ v, atI vs i = some v ∧ VR K ρ H x v := by
  unfold atI at e ⊢
  rw [← h.length]
  cases q : ixN xs.length i with
  | none => rw [q] at e; cases e
  | some j =>
    rw [q] at e
    exact h.get e
theorem i_lst : Ixd X ct E fIxL := ⟨_, ix_list, fun ρ H eh x y a b Q hr hx hy h => by
  unfold fIxL at h
  split at h
  · rename_i m i
    split at h
    · rename_i xs e1
      split at h
      · rename_i v e2
        obtain ⟨a1, vs, g1, g2, g3⟩ := lst_of hr e1
        obtain ⟨a', q1, rfl⟩ := vr_ref.mp hx
        rw [g1] at q1; cases q1
        obtain ⟨w, w1, w2⟩ := atI_vr g3 e2
        exact ⟨a1, vs, i, w, rfl, vr_int.mp hy, g2, w1, h ρ H _ (Ext.refl _ _ _) hr w2⟩
      · exact h.elim
    · exact h.elim
  · exact h.elim⟩
def fIxT : D2 := fun x y h => match x, y with
  | .tup xs, .int i => match atI xs i with
    | some v => .ok v h
    | none => .no
  | _, _ => .no
theorem i_tup : Ixd X ct E fIxT := ⟨_, ix_tup, fun ρ H eh x y a b Q hr hx hy h => by
  unfold fIxT at h
  split at h
  · rename_i xs i
    split at h
    · rename_i v e2
      obtain ⟨a1, vs, rfl, g2, g3⟩ := vr_tup.mp hx
      obtain ⟨w, w1, w2⟩ := atI_vr g3 e2
      exact ⟨a1, vs, i, w, rfl, vr_int.mp hy, SqT.of g2, w1, h ρ H _ (Ext.refl _ _ _) hr w2⟩
    · exact h.elim
  · exact h.elim⟩
abbrev fIx : D2 := d2or fIxL fIxT
theorem i_ix : Ixd X ct E fIx := i_lst.or i_tup
def cutE (xs : List EV) (lo hi : Option Int) : List EV := (xs.drop (HT.sIx xs.length 0 lo)).take (HT.sIx xs.length xs.length hi - HT.sIx xs.length 0 lo)
def fSl : EV → Option Int → Option Int → EH → Res EV := fun x lo hi h => match x with
  | .ref m => match lstAt h m with
    | some xs => .ok (.ref h.length) (h ++ [.lst (cutE xs lo hi)])
    | none => .no
  | _ => .no
def dPart (e : Option DE) : ES → EH → Res (Option Int) := fun es h => match e with
  | none => .ok none h
  | some d => (d es h).bind fun x h1 => match x with
    | .int i => .ok (some i) h1
    | _ => .no
def dSl (f : EV → Option Int → Option Int → EH → Res EV) (a : DE) (lo hi : ES → EH → Res (Option Int)) : DE := fun es h => (a es h).bind fun x h1 => (lo es h1).bind fun l h2 => (hi es h2).bind fun u h3 => f x l u h3
abbrev RO : Rho → Hp → Option Int → Option Int → Prop := fun _ _ a b => a = b
def POd (X : Cx) (ct : Nat → Addr × List Str) (E : XK) (e : Option Expr) (d : ES → EH → Res (Option Int)) : Prop := ∃ t, PO X e t ∧ Sound ⟨X.K, ct⟩ E RO t d
theorem xo_none : POd X ct E none (dPart none) := ⟨_, po_none, fun ρ σ H es eh Q rel h => h ρ H none (Ext.refl _ _ _) rel.hr rfl⟩
theorem xo_some {e : Expr} {d : DE} (h : PEd X ct E e d) : POd X ct E (some e) (dPart (some d)) := by
  obtain ⟨t, h1, h2⟩ := h
  refine ⟨_, po_some h1, fun ρ σ H es eh Q rel h => ?_⟩
  refine h2.bind rel h fun ρ1 H1 x eh1 u e1 rel1 v1 h1 => ?_
  cases x with
  | int i => exact ⟨i, vr_int.mp v1, h1 ρ1 H1 _ (Ext.refl _ _ _) rel1.hr rfl⟩
  | _ => exact h1.elim
theorem xe_slice {a : Expr} {lo hi : Option Expr} {p2 pos : Pos} {da : DE} {dl dh : ES → EH → Res (Option Int)} (ha : PEd X ct E a da) (hl : POd X ct E lo dl) (hh : POd X ct E hi dh) : PEd X ct E (.Subscript a (.Slice lo hi none p2) pos) (dSl fSl da dl dh) := by
  obtain ⟨t, h1, h2⟩ := ha
  obtain ⟨tl, l1, l2⟩ := hl
  obtain ⟨th, k1, k2⟩ := hh
  refine ⟨_, pe_slice sl_list h1 l1 k1, fun ρ σ H es eh Q rel h => ?_⟩
  refine h2.bind rel h fun ρ1 H1 x eh1 u e1 rel1 v1 h1 => ?_
  refine l2.bind rel1 h1 fun ρ2 H2 l eh2 l' e2 rel2 v2 h2 => ?_
  refine k2.bind rel2 h2 fun ρ3 H3 k eh3 k' e3 rel3 v3 h3 => ?_
  cases v2
  cases v3
  have v1' := (v1.mono e2).mono e3
  unfold fSl at h3
  split at h3
  · rename_i m
    split at h3
    · rename_i xs e4
      obtain ⟨a1, vs, g1, g2, g3⟩ := lst_of rel3.hr e4
      obtain ⟨a', q1, rfl⟩ := vr_ref.mp v1'
      rw [g1] at q1; cases q1
      refine ⟨a1, vs, rfl, g2, new_lst rel3.hr ?_ h3⟩
      unfold cutV
      rw [← g3.length]
      exact (g3.drop _).take _
    · exact h3.elim
  · exact h3.elim
def fLen : DL := fun xs h => match xs with
  | [.ref m] => match lstAt h m with
    | some xs => .ok (.int xs.length) h
    | none => .no
  | [.tup xs] => .ok (.int xs.length) h
  | _ => .no
theorem vrs_one {K : Fg} {ρ : Rho} {H : Hp} {x : EV} {vs : List V} (h : VRs K ρ H [x] vs) : ∃ v, vs = [v] ∧ VR K ρ H x v := by
  obtain ⟨v, r, rfl, h1, h2⟩ := vrs_cons.mp h
  rw [vrs_nil.mp h2]
  exact ⟨v, rfl, h1⟩
theorem vrs_two {K : Fg} {ρ : Rho} {H : Hp} {x y : EV} {vs : List V} (h : VRs K ρ H [x, y] vs) : ∃ v u, vs = [v, u] ∧ VR K ρ H x v ∧ VR K ρ H y u := by
  obtain ⟨v, r, rfl, h1, h2⟩ := vrs_cons.mp h
  obtain ⟨u, rfl, h3⟩ := vrs_one h2
  exact ⟨v, u, rfl, h1, h3⟩
theorem c_len : Cld X ct E (.builtin "len") fLen := ⟨_, call_len_seq, fun ρ H eh xs as Q hr hx h => by
  unfold fLen at h
  split at h
  · rename_i m
    split at h
    · rename_i ys e1
      obtain ⟨v, rfl, hv⟩ := vrs_one hx
      obtain ⟨a1, vs, g1, g2, g3⟩ := lst_of hr e1
      obtain ⟨a', q1, rfl⟩ := vr_ref.mp hv
      rw [g1] at q1; cases q1
      exact ⟨a1, vs, rfl, .inl g2, h ρ H _ (Ext.refl _ _ _) hr (by rw [g3.length]; exact vr_int.mpr rfl)⟩
    · exact h.elim
  · rename_i ys
    obtain ⟨v, rfl, hv⟩ := vrs_one hx
    obtain ⟨a1, vs, rfl, g2, g3⟩ := vr_tup.mp hv
    exact ⟨a1, vs, rfl, .inr (SqT.of g2), h ρ H _ (Ext.refl _ _ _) hr (by rw [g3.length]; exact vr_int.mpr rfl)⟩
  · exact h.elim⟩
def fListOf : DL := fun xs h => match xs with
  | [.ref m] => match lstAt h m with
    | some xs => .ok (.ref h.length) (h ++ [.lst xs])
    | none => .no
  | [.tup xs] => .ok (.ref h.length) (h ++ [.lst xs])
  | _ => .no
theorem c_list : Cld X ct E (.type "list") fListOf := ⟨_, call_list_of, fun ρ H eh xs as Q hr hx h => by
  unfold fListOf at h
  split at h
  · rename_i m
    split at h
    · rename_i ys e1
      obtain ⟨v, rfl, hv⟩ := vrs_one hx
      obtain ⟨a1, vs, g1, g2, g3⟩ := lst_of hr e1
      obtain ⟨a', q1, rfl⟩ := vr_ref.mp hv
      rw [g1] at q1; cases q1
      exact ⟨a1, vs, rfl, .inl g2, new_lst hr g3 h⟩
    · exact h.elim
  · rename_i ys
    obtain ⟨v, rfl, hv⟩ := vrs_one hx
    obtain ⟨a1, vs, rfl, g2, g3⟩ := vr_tup.mp hv
    exact ⟨a1, vs, rfl, .inr (SqT.of g2), new_lst hr g3 h⟩
  · exact h.elim⟩
mutual
def dat0 (f : Nat → Option (List PyData)) : EV → Option PyData
  | .non => some .none
  | .bl b => some (.bool b)
  | .int i => some (.int i)
  | .str x => some (.str x)
  | .ref n => (f n).map PyData.list
  | .ty _ => none
  | .tup xs => (dat0s f xs).map PyData.tuple
def dat0s (f : Nat → Option (List PyData)) : List EV → Option (List PyData)
  | [] => some []
  | x :: xs => match dat0 f x, dat0s f xs with
    | some d, some ds => some (d :: ds)
    | _, _ => none
end
def datF (h : EH) : Nat → Nat → Option (List PyData)
  | 0, _ => none
  | n + 1, k => match lstAt h k with
    | some xs => dat0s (datF h n) xs
    | none => none
def dat (h : EH) (x : EV) : Option PyData := dat0 (datF h 4) x
mutual
theorem dat0_dp {G : Gx} {ρ : Rho} {H : Hp} {f : Nat → Option (List PyData)} (hf : ∀ n ds, f n = some ds → ∃ a vs, adr ρ n = some a ∧ SqL G.K H a vs ∧ DpAll G.K H vs ds) : ∀ (x : EV) (v : V) (d : PyData), VR G.K ρ H x v → dat0 f x = some d → Dp G.K H v d
  | .non, v, d, hx, h => by
    rw [vr_non.mp hx]
    simp only [dat0, Option.some.injEq] at h
    subst h
    exact .non
  | .bl b, v, d, hx, h => by
    rw [vr_bl.mp hx]
    simp only [dat0, Option.some.injEq] at h
    subst h
    exact .bl b
  | .int b, v, d, hx, h => by
    rw [vr_int.mp hx]
    simp only [dat0, Option.some.injEq] at h
    subst h
    exact .int b
  | .str b, v, d, hx, h => by
    rw [vr_str.mp hx]
    simp only [dat0, Option.some.injEq] at h
    subst h
    exact .str b
  | .ty b, v, d, hx, h => by
    simp only [dat0] at h
    cases h
  | .ref n, v, d, hx, h => by
    simp only [dat0] at h
    obtain ⟨ds, h1, rfl⟩ := Option.map_eq_some_iff.mp h
    obtain ⟨a, vs, e1, e2, e3⟩ := hf n ds h1
    obtain ⟨a', e4, rfl⟩ := vr_ref.mp hx
    rw [e1] at e4; cases e4
    exact .lst e2 e3
  | .tup xs, v, d, hx, h => by
    simp only [dat0] at h
    obtain ⟨ds, h1, rfl⟩ := Option.map_eq_some_iff.mp h
    obtain ⟨a, vs, rfl, e2, e3⟩ := vr_tup.mp hx
    exact .tup (SqT.of e2) (dat0s_dp hf xs vs ds e3 h1)
theorem dat0s_dp {G : Gx} {ρ : Rho} {H : Hp} {f : Nat → Option (List PyData)} (hf : ∀ n ds, f n = some ds → ∃ a vs, adr ρ n = some a ∧ SqL G.K H a vs ∧ DpAll G.K H vs ds) : ∀ (xs : List EV) (vs : List V) (ds : List PyData), VRs G.K ρ H xs vs → dat0s f xs = some ds → DpAll G.K H vs ds
  | [], vs, ds, hx, h => by
    rw [vrs_nil.mp hx]
    simp only [dat0s, Option.some.injEq] at h
    subst h
    exact .nil
  | x :: xs, vs, ds, hx, h => by
    obtain ⟨v, r, rfl, h1, h2⟩ := vrs_cons.mp hx
    simp only [dat0s] at h
    split at h
    · rename_i d ds' e1 e2
      cases h
      exact .cons (dat0_dp hf x v d h1 e1) (dat0s_dp hf xs r ds' h2 e2)
    · cases h
end
theorem datF_dp {G : Gx} {ρ : Rho} {H : Hp} {eh : EH} (hr : HR G ρ H eh) : ∀ (m n : Nat) (ds : List PyData), datF eh m n = some ds → ∃ a vs, adr ρ n = some a ∧ SqL G.K H a vs ∧ DpAll G.K H vs ds
  | 0, n, ds, h => by cases h
  | m + 1, n, ds, h => by
    simp only [datF] at h
    split at h
    · rename_i xs e1
      obtain ⟨a, vs, g1, g2, g3⟩ := lst_of hr e1
      exact ⟨a, vs, g1, g2, dat0s_dp (fun k ks => datF_dp hr m k ks) xs vs ds g3 h⟩
    · cases h
theorem dat_dp {G : Gx} {ρ : Rho} {H : Hp} {eh : EH} (hr : HR G ρ H eh) {x : EV} {v : V} {d : PyData} (hx : VR G.K ρ H x v) (h : dat eh x = some d) : Dp G.K H v d := dat0_dp (datF_dp hr 4) x v d hx h
def fEqS (neg : Bool) : D2 := fun x y h => match x, y with
  | .int i, .int j => .ok (.bl (neg ^^ decide (i = j))) h
  | .bl i, .bl j => .ok (.bl (neg ^^ decide (i = j))) h
  | .str i, .str j => .ok (.bl (neg ^^ decide (i = j))) h
  | _, _ => .no
def fEqD (neg : Bool) : D2 := fun x y h => match dat h x, dat h y with
  | some d, some e => if (SeqAt.shaped d && SeqAt.shaped e) = true then .ok (.bl (neg ^^ PyData.eqv d e)) h else .no
  | _, _ => .no
abbrev fEq : D2 := d2or (fEqS false) (fEqD false)
abbrev fNe : D2 := d2or (fEqS true) (fEqD true)
theorem o_eqS : Opd X ct E (compareOp .Eq) (fEqS false) := ⟨_, op_eq, fun ρ H eh x y a b Q hr hx hy h => by
  unfold fEqS at h
  split at h
  · rename_i i j
    rw [vr_int.mp hx, vr_int.mp hy]
    refine ⟨rfl, h ρ H _ (Ext.refl _ _ _) hr (vr_bl.mpr ?_)⟩
    simp
  · rename_i i j
    rw [vr_bl.mp hx, vr_bl.mp hy]
    refine ⟨rfl, h ρ H _ (Ext.refl _ _ _) hr (vr_bl.mpr ?_)⟩
    simp
  · rename_i i j
    rw [vr_str.mp hx, vr_str.mp hy]
    refine ⟨rfl, h ρ H _ (Ext.refl _ _ _) hr (vr_bl.mpr ?_)⟩
    simp
  · exact h.elim⟩
theorem o_neS : Opd X ct E (compareOp .NotEq) (fEqS true) := ⟨_, op_ne, fun ρ H eh x y a b Q hr hx hy h => by
  unfold fEqS at h
  split at h
  · rename_i i j
    rw [vr_int.mp hx, vr_int.mp hy]
    refine ⟨rfl, h ρ H _ (Ext.refl _ _ _) hr (vr_bl.mpr ?_)⟩
    simp
  · rename_i i j
    rw [vr_bl.mp hx, vr_bl.mp hy]
    refine ⟨rfl, h ρ H _ (Ext.refl _ _ _) hr (vr_bl.mpr ?_)⟩
    simp
  · rename_i i j
    rw [vr_str.mp hx, vr_str.mp hy]
    refine ⟨rfl, h ρ H _ (Ext.refl _ _ _) hr (vr_bl.mpr ?_)⟩
    simp
  · exact h.elim⟩
theorem o_eqD (hu : X.A.units + 64 < cLine) : Opd X ct E (compareOp .Eq) (fEqD false) := ⟨_, op_eqD hu, fun ρ H eh x y a b Q hr hx hy h => by
  unfold fEqD at h
  split at h
  · rename_i d e e1 e2
    split at h
    · rename_i hs
      simp only [Bool.and_eq_true] at hs
      refine ⟨d, e, dat_dp hr hx e1, dat_dp hr hy e2, hs.1, hs.2, h ρ H _ (Ext.refl _ _ _) hr (vr_bl.mpr ?_)⟩
      simp
    · exact h.elim
  · exact h.elim⟩
theorem o_neD (hu : X.A.units + 64 < cLine) : Opd X ct E (compareOp .NotEq) (fEqD true) := ⟨_, op_neD hu, fun ρ H eh x y a b Q hr hx hy h => by
  unfold fEqD at h
  split at h
  · rename_i d e e1 e2
    split at h
    · rename_i hs
      simp only [Bool.and_eq_true] at hs
      refine ⟨d, e, dat_dp hr hx e1, dat_dp hr hy e2, hs.1, hs.2, h ρ H _ (Ext.refl _ _ _) hr (vr_bl.mpr ?_)⟩
      simp
    · exact h.elim
  · exact h.elim⟩
theorem o_eq (hu : X.A.units + 64 < cLine) : Opd X ct E (compareOp .Eq) fEq := o_eqS.or (o_eqD hu)
theorem o_ne (hu : X.A.units + 64 < cLine) : Opd X ct E (compareOp .NotEq) fNe := o_neS.or (o_neD hu)
def fInL (neg : Bool) : D2 := fun x y h => match y with
  | .ref n => match dat h x, datF h 4 n with
    | some d, some ds => if (SeqAt.shaped d && SeqAt.shaped (.list ds)) = true then .ok (.bl (neg ^^ ds.any fun z => PyData.eqv z d)) h else .no
    | _, _ => .no
  | _ => .no
theorem dat_ref {eh : EH} {n : Nat} {ds : List PyData} (h : datF eh 4 n = some ds) : dat eh (.ref n) = some (.list ds) := by
  unfold dat
  simp only [dat0, h, Option.map_some]
theorem o_inL (hu : X.A.units + 65 < cLine) : Opd X ct E (compareOp .In) (fInL false) := ⟨_, op_inD hu, fun ρ H eh x y a b Q hr hx hy h => by
  unfold fInL at h
  split at h
  · rename_i n
    split at h
    · rename_i d ds e1 e2
      split at h
      · rename_i hs
        simp only [Bool.and_eq_true] at hs
        refine ⟨d, ds, dat_dp hr hx e1, dat_dp hr hy (dat_ref e2), hs.1, hs.2, h ρ H _ (Ext.refl _ _ _) hr (vr_bl.mpr ?_)⟩
        simp
      · exact h.elim
    · exact h.elim
  · exact h.elim⟩
theorem o_notInL (hu : X.A.units + 65 < cLine) : Opd X ct E (compareOp .NotIn) (fInL true) := ⟨_, op_notInD hu, fun ρ H eh x y a b Q hr hx hy h => by
  unfold fInL at h
  split at h
  · rename_i n
    split at h
    · rename_i d ds e1 e2
      split at h
      · rename_i hs
        simp only [Bool.and_eq_true] at hs
        refine ⟨d, ds, dat_dp hr hx e1, dat_dp hr hy (dat_ref e2), hs.1, hs.2, h ρ H _ (Ext.refl _ _ _) hr (vr_bl.mpr ?_)⟩
        simp
      · exact h.elim
    · exact h.elim
  · exact h.elim⟩
def fIsN (neg : Bool) : D2 := fun x y h => match x, y with
  | .non, .non => .ok (.bl (neg ^^ true)) h
  | .int _, .non => .ok (.bl (neg ^^ false)) h
  | .bl _, .non => .ok (.bl (neg ^^ false)) h
  | .str _, .non => .ok (.bl (neg ^^ false)) h
  | .ref _, .non => .ok (.bl (neg ^^ false)) h
  | .tup _, .non => .ok (.bl (neg ^^ false)) h
  | _, _ => .no
theorem o_isN : Opd X ct E (compareOp .Is) (fIsN false) := ⟨_, op_isN, fun ρ H eh x y a b Q hr hx hy h => by
  unfold fIsN at h
  split at h
  · rw [vr_non.mp hx]
    exact ⟨vr_non.mp hy, h ρ H _ (Ext.refl _ _ _) hr (vr_bl.mpr (by simp))⟩
  · rw [vr_int.mp hx]
    exact ⟨vr_non.mp hy, h ρ H _ (Ext.refl _ _ _) hr (vr_bl.mpr (by simp))⟩
  · rw [vr_bl.mp hx]
    exact ⟨vr_non.mp hy, h ρ H _ (Ext.refl _ _ _) hr (vr_bl.mpr (by simp))⟩
  · rw [vr_str.mp hx]
    exact ⟨vr_non.mp hy, h ρ H _ (Ext.refl _ _ _) hr (vr_bl.mpr (by simp))⟩
  · obtain ⟨q, _, rfl⟩ := vr_ref.mp hx
    exact ⟨vr_non.mp hy, h ρ H _ (Ext.refl _ _ _) hr (vr_bl.mpr (by simp))⟩
  · obtain ⟨q, _, rfl, _⟩ := vr_tup.mp hx
    exact ⟨vr_non.mp hy, h ρ H _ (Ext.refl _ _ _) hr (vr_bl.mpr (by simp))⟩
  · exact h.elim⟩
theorem o_notN : Opd X ct E (compareOp .IsNot) (fIsN true) := ⟨_, op_notN, fun ρ H eh x y a b Q hr hx hy h => by
  unfold fIsN at h
  split at h
  · rw [vr_non.mp hx]
    exact ⟨vr_non.mp hy, h ρ H _ (Ext.refl _ _ _) hr (vr_bl.mpr (by simp))⟩
  · rw [vr_int.mp hx]
    exact ⟨vr_non.mp hy, h ρ H _ (Ext.refl _ _ _) hr (vr_bl.mpr (by simp))⟩
  · rw [vr_bl.mp hx]
    exact ⟨vr_non.mp hy, h ρ H _ (Ext.refl _ _ _) hr (vr_bl.mpr (by simp))⟩
  · rw [vr_str.mp hx]
    exact ⟨vr_non.mp hy, h ρ H _ (Ext.refl _ _ _) hr (vr_bl.mpr (by simp))⟩
  · obtain ⟨q, _, rfl⟩ := vr_ref.mp hx
    exact ⟨vr_non.mp hy, h ρ H _ (Ext.refl _ _ _) hr (vr_bl.mpr (by simp))⟩
  · obtain ⟨q, _, rfl, _⟩ := vr_tup.mp hx
    exact ⟨vr_non.mp hy, h ρ H _ (Ext.refl _ _ _) hr (vr_bl.mpr (by simp))⟩
  · exact h.elim⟩
variable {a b c e : Expr} {es rest : List Expr} {pos : Pos} {da db dc : DE} {dt du : DT} {dr : DA}
theorem xe_cmp {op : CmpOp} {f : D2} (ho : Opd X ct E (compareOp op) f) (ha : PEd X ct E a da) (hb : PEd X ct E b db) (hm : behindInMarks op b = false := by first | exact nobehind _ (by decide) (by decide) | rfl) : PEd X ct E (.Compare a [op] [b] pos) (dOp f da db) := by
  obtain ⟨r, h1, h2⟩ := ho
  obtain ⟨ta, a1, a2⟩ := ha
  obtain ⟨tb, b1, b2⟩ := hb
  exact ⟨_, pe_cmpR h1 a1 b1 hm, snd_op h2 a2 b2⟩
theorem xt_cmp {op : CmpOp} {f : D2} (ho : Opd X ct E (compareOp op) f) (ha : PEd X ct E a da) (hb : PEd X ct E b db) (hm : behindInMarks op b = false := by first | exact nobehind _ (by decide) (by decide) | rfl) : PTd X ct E (.Compare a [op] [b] pos) (dB (dOp f da db)) := by
  obtain ⟨r, h1, h2⟩ := ho
  obtain ⟨ta, a1, a2⟩ := ha
  obtain ⟨tb, b1, b2⟩ := hb
  exact ⟨_, pt_cmpR h1 a1 b1 hm, snd_B (snd_op h2 a2 b2)⟩
def dChain (f g : D2) (a b c : DE) : DE := fun es h => (a es h).bind fun x h1 => (b es h1).bind fun y h2 => (f x y h2).bind fun z h3 => match z with
  | .bl k => if k = true then (c es h3).bind fun w h4 => g y w h4 else .ok (.bl false) h3
  | _ => .no
theorem Snd2.bind {r : R2} {f : D2} {E : XK} (h : Snd2 G E r f) {ρ : Rho} {H : Hp} {eh : EH} (hr : HR G ρ H eh) {x y : EV} {a b : V} (hx : VR G.K ρ H x a) (hy : VR G.K ρ H y b)
    {γ δ : Type} {R2' : Rho → Hp → γ → δ → Prop} {k : EV → EH → Res γ} {Q2 : δ → Hp → Prop} (hw : wr G R2' ρ H ((f x y eh).bind k) Q2 E) {Kt : V → Hp → Prop}
    (hk : ∀ ρ1 H1 v eh1 u, Ext G.K ρ ρ1 H H1 → HR G ρ1 H1 eh1 → VR G.K ρ1 H1 v u → wr G R2' ρ1 H1 (k v eh1) Q2 E → Kt u H1) : r a b H Kt := by
  refine h ρ H eh x y a b Kt hr hx hy ?_
  cases q : f x y eh with
  | ok v h' =>
    rw [q] at hw
    exact fun ρ' H' u e hr' rv => hk ρ' H' v h' u e hr' rv (hw.mono e)
  | er z h' =>
    rw [q] at hw
    exact hw
  | no =>
    rw [q] at hw
    exact hw
theorem snd_chain {r r' : R2} {f g : D2} {ta tb tc : TE} (hf : Snd2 G E r f) (hg : Snd2 G E r' g) (ha : SndE G E ta da) (hb : SndE G E tb db) (hc : SndE G E tc dc) : SndE G E (tChain r r' ta tb tc) (dChain f g da db dc) := fun ρ σ H es eh Q rel h => by
  refine ha.bind rel h fun ρ1 H1 x eh1 u e1 rel1 v1 h1 => ?_
  refine hb.bind rel1 h1 fun ρ2 H2 y eh2 w e2 rel2 v2 h2 => ?_
  refine hf.bind rel2.hr (v1.mono e2) v2 h2 fun ρ3 H3 z eh3 zz e3 hr3 v3 h3 => ?_
  cases z with
  | bl k =>
    refine ⟨k, vr_bl.mp v3, ?_⟩
    cases k with
    | true =>
      refine iteT (hc.bind (rel2.ext e3 hr3) h3 fun ρ4 H4 q eh4 qq e4 rel4 v4 h4 => ?_)
      exact hg ρ4 H4 eh4 y q w qq Q rel4.hr ((v2.mono e3).mono e4) v4 h4
    | false => exact iteF (h3 ρ3 H3 _ (Ext.refl _ _ _) hr3 (vr_bl.mpr rfl))
  | _ => exact h3.elim
theorem xe_chain {op op' : CmpOp} {f g : D2} (ho : Opd X ct E (compareOp op) f) (ho' : Opd X ct E (compareOp op') g) (ha : PEd X ct E a da) (hb : PEd X ct E b db) (hc : PEd X ct E c dc)
    (hm : lastMarks [op, op'] [b, c] = false := by with_unfolding_all rfl) : PEd X ct E (.Compare a [op, op'] [b, c] pos) (dChain f g da db dc) := by
  obtain ⟨r, h1, h2⟩ := ho
  obtain ⟨r', h1', h2'⟩ := ho'
  obtain ⟨ta, a1, a2⟩ := ha
  obtain ⟨tb, b1, b2⟩ := hb
  obtain ⟨tc, c1, c2⟩ := hc
  exact ⟨_, pe_chain h1 h1' a1 b1 c1 hm, snd_chain h2 h2' a2 b2 c2⟩
theorem xa_cons (ha : PEd X ct E e da) (hr : PAd X ct E es dr) (hs : starEach (e :: es) X.env = (false, eval e X.env) :: starEach es X.env := by rfl) : PAd X ct E (e :: es) (dCons da dr) := by
  obtain ⟨ta, a1, a2⟩ := ha
  obtain ⟨tr, r1, r2⟩ := hr
  exact ⟨_, pa_cons a1 r1 hs, snd_cons a2 r2⟩
theorem xe_callB {x : Str} {p : Pos} {id : String} {f : DL} (hc : Cld X ct E (.builtin id) f) (hg : Gl X x) (hm : X.mg x = none) (hv : bootBuiltins x = some (.builtin id)) (ha : PAd X ct E (e :: es) dr) (hn : x ≠ "__name__" := by decide) (hdb : (x == ("__debug__" : Str)) = false := by decide)
    (he : starEach (e :: es) X.env = (false, eval e X.env) :: starEach es X.env := by rfl) (hpl : (backTo pos (starEach es X.env)).any (·.1) = false := by rfl) : PEd X ct E (.Call (.Name x p) (e :: es) [] pos) (dCB f dr) := by
  obtain ⟨r, h1, h2⟩ := hc
  obtain ⟨ta, a1, a2⟩ := ha
  exact ⟨_, pe_callB h1 hg hm hv a1 hn hdb he hpl, snd_cb h2 a2⟩
theorem xe_callTy {x : Str} {p : Pos} {T : String} {f : DL} (hc : Cld X ct E (.type T) f) (hg : Gl X x) (hm : X.mg x = none) (hv : bootBuiltins x = some (.type T)) (ha : PAd X ct E (e :: es) dr) (hn : x ≠ "__name__" := by decide) (hdb : (x == ("__debug__" : Str)) = false := by decide)
    (he : starEach (e :: es) X.env = (false, eval e X.env) :: starEach es X.env := by rfl) (hpl : (backTo pos (starEach es X.env)).any (·.1) = false := by rfl) : PEd X ct E (.Call (.Name x p) (e :: es) [] pos) (dCB f dr) := by
  obtain ⟨r, h1, h2⟩ := hc
  obtain ⟨ta, a1, a2⟩ := ha
  exact ⟨_, pe_callTy h1 hg hm hv a1 hn hdb he hpl, snd_cb h2 a2⟩
end
inductive Ty where
  | none_ | bool_ | int_ | str_ | list_ | tuple_ | dict_
  deriving DecidableEq
def Ty.nm : Ty → String
  | .none_ => "NoneType" | .bool_ => "bool" | .int_ => "int" | .str_ => "str" | .list_ => "list" | .tuple_ => "tuple" | .dict_ => "dict"
def Ty.isa : Ty → Ty → Bool
  | .bool_, .int_ => true
  | a, b => decide (a = b)
theorem kit_all {K : Fg} : ∀ t c : Ty, PySem.W.kitOne K (.type t.nm) (.type c.nm) = some (t.isa c) := fun t c => kit_ty (by cases t <;> cases c <;> decide +kernel)
def tyOf (h : EH) : EV → Option Ty
  | .non => some .none_
  | .bl _ => some .bool_
  | .int _ => some .int_
  | .str _ => some .str_
  | .tup _ => some .tuple_
  | .ty _ => none
  | .ref n => match h[n]? with
    | some (.lst _) => some .list_
    | some (.ro _) => some .list_
    | some (.dic _ _) => some .dict_
    | _ => none
theorem tyOf_tx {G : Gx} {ρ : Rho} {H : Hp} {eh : EH} (hr : HR G ρ H eh) {x : EV} {v : V} {t : Ty} (hx : VR G.K ρ H x v) (h : tyOf eh x = some t) : TyX G.K H v (.type t.nm) := by
  cases x with
  | non => rw [vr_non.mp hx]; cases h; exact .base .non
  | bl b => rw [vr_bl.mp hx]; cases h; exact .base (.bl b)
  | int b => rw [vr_int.mp hx]; cases h; exact .base (.int b)
  | str b => rw [vr_str.mp hx]; cases h; exact .base (.str b)
  | tup xs =>
    obtain ⟨a, vs, rfl, e2, e3⟩ := vr_tup.mp hx
    cases h
    exact .base (.tup e2)
  | ty n => cases h
  | ref n =>
    obtain ⟨a, ha, rfl⟩ := vr_ref.mp hx
    simp only [tyOf] at h
    split at h
    · rename_i xs e
      cases h
      obtain ⟨a', ha', vs, h2, _⟩ := hr.obj n _ e
      rw [adr_of ha'] at ha; cases ha
      exact .base (.lst h2)
    · rename_i xs e
      cases h
      obtain ⟨a', ha', vs, h2, _⟩ := hr.obj n _ e
      rw [adr_of ha'] at ha; cases ha
      rcases h2 with ⟨o, h2⟩ | ⟨o, its, k, h2, h3, _⟩
      · exact .base (.frz h2)
      · exact .kList h2 h3
    · rename_i t0 xs e
      cases h
      obtain ⟨a', ha', h2⟩ := hr.obj n _ e
      rw [adr_of ha'] at ha; cases ha
      obtain ⟨u, h2, h3⟩ := h2
      cases t0 with
      | false =>
        obtain ⟨l, rfl, _⟩ := h3
        exact .base (.dK h2)
      | true =>
        obtain ⟨l, rfl, _⟩ := h3
        exact .base (.dT h2)
    · cases h
def fIsi (c : Ty) (d : DE) : DE := fun es h => (d es h).bind fun x h1 => match tyOf h1 x with
  | some t => .ok (.bl (t.isa c)) h1
  | none => .no
def fIsi2 (c c' : Ty) (d : DE) : DE := fun es h => (d es h).bind fun x h1 => match tyOf h1 x with
  | some t => .ok (.bl (t.isa c || t.isa c')) h1
  | none => .no
section
variable {X : Cx} {ct : Nat → Addr × List Str} {E : XK} {e : Expr} {pos p q : Pos} {d : DE}
theorem xe_isi (c : Ty) {y : Str} (hg : Gl X "isinstance") (hm : X.mg "isinstance" = none) (hgy : Gl X y) (hmy : X.mg y = none) (hvy : bootBuiltins y = some (.type c.nm)) (he : PEd X ct E e d) (hn : y ≠ "__name__" := by decide) (hdb : (y == ("__debug__" : Str)) = false := by decide)
    (hs1 : starEach [e, .Name y q] X.env = (false, eval e X.env) :: starEach [.Name y q] X.env := by rfl) (hs2 : starEach [.Name y q] X.env = (false, eval (.Name y q) X.env) :: starEach [] X.env := by rfl) (hpl : (backTo pos (starEach [.Name y q] X.env)).any (·.1) = false := by rfl) :
    PEd X ct E (.Call (.Name "isinstance" p) [e, .Name y q] [] pos) (fIsi c d) := by
  obtain ⟨t, h1, h2⟩ := he
  refine ⟨_, pe_callB call_isi hg hm (by decide +kernel) (pa_cons h1 (pa_cons (pe_bltn (v := .ty c.nm) hgy hmy hvy rfl hn hdb) pa_nil hs2) hs1) (by decide) (by decide) hs1 hpl, fun ρ σ H es eh Q rel h => ?_⟩
  refine h2.bind rel h fun ρ1 H1 x eh1 u e1 rel1 v1 h1 => ?_
  split at h1
  · rename_i t ht
    exact ⟨u, .ty c.nm, _, _, t.isa c, rfl, .ty _, tyOf_tx rel1.hr v1 ht, kit_all t c, h1 ρ1 H1 _ (Ext.refl _ _ _) rel1.hr (vr_bl.mpr rfl)⟩
  · exact h1.elim
theorem xe_isi2 (c c' : Ty) {y y' : Str} {k : Nat} {q' qt : Pos} (hg : Gl X "isinstance") (hm : X.mg "isinstance" = none) (hgy : Gl X y) (hmy : X.mg y = none) (hvy : bootBuiltins y = some (.type c.nm)) (hgy' : Gl X y') (hmy' : X.mg y' = none) (hvy' : bootBuiltins y' = some (.type c'.nm)) (he : PEd X ct E e d)
    (hn : y ≠ "__name__" := by decide) (hdb : (y == ("__debug__" : Str)) = false := by decide) (hn' : y' ≠ "__name__" := by decide) (hdb' : (y' == ("__debug__" : Str)) = false := by decide)
    (hs1 : starEach [e, .Tuple [.Name y q, .Name y' q'] k qt] X.env = (false, eval e X.env) :: starEach [.Tuple [.Name y q, .Name y' q'] k qt] X.env := by rfl) (hs2 : starEach [.Tuple [.Name y q, .Name y' q'] k qt] X.env = (false, eval (.Tuple [.Name y q, .Name y' q'] k qt) X.env) :: starEach [] X.env := by rfl)
    (hs3 : starEach [.Name y q, .Name y' q'] X.env = (false, eval (.Name y q) X.env) :: starEach [.Name y' q'] X.env := by rfl) (hs4 : starEach [.Name y' q'] X.env = (false, eval (.Name y' q') X.env) :: starEach [] X.env := by rfl)
    (hpl : (backTo pos (starEach [.Tuple [.Name y q, .Name y' q'] k qt] X.env)).any (·.1) = false := by rfl) :
    PEd X ct E (.Call (.Name "isinstance" p) [e, .Tuple [.Name y q, .Name y' q'] k qt] [] pos) (fIsi2 c c' d) := by
  obtain ⟨t, h1, h2⟩ := he
  refine ⟨_, pe_callB call_isiT hg hm (by decide +kernel) (pa_cons h1 (pa_cons (pe_tup (pa_cons (pe_bltn (v := .ty c.nm) hgy hmy hvy rfl hn hdb) (pa_cons (pe_bltn (v := .ty c'.nm) hgy' hmy' hvy' rfl hn' hdb') pa_nil hs4) hs3)) pa_nil hs2) hs1) (by decide) (by decide) hs1 hpl, fun ρ σ H es eh Q rel h => ?_⟩
  refine h2.bind rel h fun ρ1 H1 x eh1 u e1 rel1 v1 h1 => ?_
  split at h1
  · rename_i t ht
    refine ⟨by show 2 ≤ sizeLine; decide, fun tp hp => ?_⟩
    have hr2 := rel1.hr.side (HO.tup [.ty c.nm, .ty c'.nm]) hp
    refine ⟨u, tp, [.ty c.nm, .ty c'.nm], _, [.type c.nm, .type c'.nm], t.isa c || t.isa c', rfl, upd_same, .cons (.ty _) (.cons (.ty _) .nil), tyOf_tx hr2 (v1.mono (Ext.side _ hp)) ht, ?_, h1 ρ1 _ _ (Ext.side _ hp) hr2 (vr_bl.mpr rfl)⟩
    refine kitAny_cons (kit_all t c) (fun hb => ?_) (fun hb => by rw [hb]; rfl)
    rw [hb, Bool.false_or]
    exact kitAny_cons (kit_all t c') (fun hb2 => by rw [hb2]; rfl) (fun hb2 => hb2)
  · exact h1.elim
end
end EE
set_option Elab.async false
set_option linter.all false
set_option maxRecDepth 100000
set_option maxHeartbeats 1000000
namespace EE
open PySem PySem.Spec PyProof.Rows L2
def dNext : DS := fun es h => .ok (.nx es) h
def dSeq (a b : DS) : DS := fun es h => (a es h).bind fun f h1 => match f with
  | .nx es1 => b es1 h1
  | .rt v => .ok (.rt v) h1
  | .bk e => .ok (.bk e) h1
  | .ct e => .ok (.ct e) h1
def dIfS (t : DT) (a b : DS) : DS := fun es h => (t es h).bind fun c h1 => if c = true then a es h1 else b es h1
def dRet (a : DE) : DS := fun es h => (a es h).bind fun x h1 => .ok (.rt x) h1
def dRetN : DS := fun _ h => .ok (.rt .non) h
def dDrop (a : DE) : DS := fun es h => (a es h).bind fun _ h1 => .ok (.nx es) h1
def dNever : DS := fun _ _ => .no
def dBreak : DS := fun es h => .ok (.bk es) h
def dCont : DS := fun es h => .ok (.ct es) h
abbrev DG := EV → ES → EH → Res ES
abbrev DGs := List EV → ES → EH → Res ES
abbrev DSet := EV → EV → EV → EH → Res Unit
def dName (i : Nat) : DG := fun x es h => .ok (es.set i (some x)) h
def dGNil : DGs := fun xs es h => match xs with
  | [] => .ok es h
  | _ => .no
def dGCons (g : DG) (r : DGs) : DGs := fun xs es h => match xs with
  | x :: xs => (g x es h).bind fun es1 h1 => r xs es1 h1
  | [] => .no
def dGTup (n : Nat) (r : DGs) : DG := fun x es h => match x with
  | .tup xs => if xs.length = n then r xs es h else .no
  | _ => .no
def dGSub (a b : DE) (f : DSet) : DG := fun x es h => (a es h).bind fun o h1 => (b es h1).bind fun i h2 => (f o i x h2).bind fun _ h3 => .ok es h3
def dAsg (a : DE) (g : DG) : DS := fun es h => (a es h).bind fun x h1 => (g x es h1).bind fun es1 h2 => .ok (.nx es1) h2
def dPar (i j : Nat) (a : DA) : DS := fun es h => (a es h).bind fun xs h1 => match xs with
  | [x, y] => .ok (.nx ((es.set i (some x)).set j (some y))) h1
  | _ => .no
def dAug (i : Nat) (a : DE) (f : D2) : DS := fun es h => match es[i]? with
  | some (some x) => (a es h).bind fun y h1 => (f x y h1).bind fun z h2 => .ok (.nx (es.set i (some z))) h2
  | _ => .no
abbrev RS (G : Gx) : Rho → Hp → ES → L2.St → Prop := fun ρ H es σ => SR G.K ρ H es σ
def SndG (G : Gx) (E : XK) (t : TG) (d : DG) : Prop := ∀ ρ σ H es eh x u Q, Rel G ρ σ H es eh → VR G.K ρ H x u → wr G (RS G) ρ H (d x es eh) Q E → t u σ H Q
def SndGs (G : Gx) (E : XK) (t : TGs) (d : DGs) : Prop := ∀ ρ σ H es eh x u Q, Rel G ρ σ H es eh → VRs G.K ρ H x u → wr G (RS G) ρ H (d x es eh) Q E → t u σ H Q
def SndSet (G : Gx) (E : XK) (t : TSet) (d : DSet) : Prop := ∀ ρ H eh o i x a b c Q, HR G ρ H eh → VR G.K ρ H o a → VR G.K ρ H i b → VR G.K ρ H x c → wr G (fun _ _ (_ : Unit) (_ : Unit) => True) ρ H (d o i x eh) (fun _ => Q) E → t a b c H Q
section
variable (X : Cx) (ct : Nat → Addr × List Str) (E : XK)
def PGd (e : Expr) (d : DG) : Prop := ∃ t, PG X e t ∧ SndG ⟨X.K, ct⟩ E t d
def PGsd (e : List Expr) (d : DGs) : Prop := ∃ t, PGs X e t ∧ SndGs ⟨X.K, ct⟩ E t d
def PSetd (d : DSet) : Prop := ∃ t, PSet X t ∧ SndSet ⟨X.K, ct⟩ E t d
end
section
variable {G : Gx} {E : XK}
theorem SndG.bind {t : TG} {d : DG} (h : SndG G E t d) {ρ : Rho} {σ : L2.St} {H : Hp} {es : ES} {eh : EH} (rel : Rel G ρ σ H es eh) {x : EV} {u : V} (hx : VR G.K ρ H x u)
    {γ δ : Type} {R2 : Rho → Hp → γ → δ → Prop} {k : ES → EH → Res γ} {Q2 : δ → Hp → Prop} (hw : wr G R2 ρ H ((d x es eh).bind k) Q2 E) {Kt : L2.St → Hp → Prop}
    (hk : ∀ ρ1 H1 es1 eh1 σ1, Ext G.K ρ ρ1 H H1 → Rel G ρ1 σ1 H1 es1 eh1 → d x es eh = .ok es1 eh1 → wr G R2 ρ1 H1 (k es1 eh1) Q2 E → Kt σ1 H1) : t u σ H Kt := by
  refine h ρ σ H es eh x u Kt rel hx ?_
  cases q : d x es eh with
  | ok v h' =>
    rw [q] at hw
    exact fun ρ' H' u e hr r => hk ρ' H' v h' u e ⟨r, hr⟩ q (hw.mono e)
  | er x h' =>
    rw [q] at hw
    exact hw
  | no =>
    rw [q] at hw
    exact hw
theorem SndGs.bind {t : TGs} {d : DGs} (h : SndGs G E t d) {ρ : Rho} {σ : L2.St} {H : Hp} {es : ES} {eh : EH} (rel : Rel G ρ σ H es eh) {x : List EV} {u : List V} (hx : VRs G.K ρ H x u)
    {γ δ : Type} {R2 : Rho → Hp → γ → δ → Prop} {k : ES → EH → Res γ} {Q2 : δ → Hp → Prop} (hw : wr G R2 ρ H ((d x es eh).bind k) Q2 E) {Kt : L2.St → Hp → Prop}
    (hk : ∀ ρ1 H1 es1 eh1 σ1, Ext G.K ρ ρ1 H H1 → Rel G ρ1 σ1 H1 es1 eh1 → wr G R2 ρ1 H1 (k es1 eh1) Q2 E → Kt σ1 H1) : t u σ H Kt := by
  refine h ρ σ H es eh x u Kt rel hx ?_
  cases q : d x es eh with
  | ok v h' =>
    rw [q] at hw
    exact fun ρ' H' u e hr r => hk ρ' H' v h' u e ⟨r, hr⟩ (hw.mono e)
  | er x h' =>
    rw [q] at hw
    exact hw
  | no =>
    rw [q] at hw
    exact hw
theorem SndS.bind {t : TS} {d : DS} (h : SndS G E t d) {ρ : Rho} {σ : L2.St} {H : Hp} {es : ES} {eh : EH} (rel : Rel G ρ σ H es eh)
    {γ δ : Type} {R2 : Rho → Hp → γ → δ → Prop} {k : Flw → EH → Res γ} {Q2 : δ → Hp → Prop} (hw : wr G R2 ρ H ((d es eh).bind k) Q2 E) {D : Ends}
    (hk : ∀ ρ1 H1 f eh1 vf, Ext G.K ρ ρ1 H H1 → HR G ρ1 H1 eh1 → RF G ρ1 H1 f vf → wr G R2 ρ1 H1 (k f eh1) Q2 E → qD D vf H1) : t D σ H := by
  refine h ρ σ H es eh D rel ?_
  cases q : d es eh with
  | ok v h' =>
    rw [q] at hw
    exact fun ρ' H' u e hr r => hk ρ' H' v h' u e hr r (hw.mono e)
  | er x h' =>
    rw [q] at hw
    exact hw
  | no =>
    rw [q] at hw
    exact hw
theorem snd_next : SndS G E tNext dNext := fun ρ σ H es eh D rel h => h ρ H (.nx σ) (Ext.refl _ _ _) rel.hr rel.sl
theorem snd_seq {t u : TS} {a b : DS} (ha : SndS G E t a) (hb : SndS G E u b) : SndS G E (tSeq t u) (dSeq a b) := fun ρ σ H es eh D rel h => by
  refine ha.bind rel h fun ρ1 H1 f eh1 vf e1 hr1 rf h1 => ?_
  cases f with
  | nx es1 =>
    cases vf with
    | nx σ1 => exact hb ρ1 σ1 H1 es1 eh1 D ⟨rf, hr1⟩ h1
    | _ => exact rf.elim
  | rt v =>
    cases vf with
    | rt w => exact h1 ρ1 H1 (.rt w) (Ext.refl _ _ _) hr1 rf
    | _ => exact rf.elim
  | bk v =>
    cases vf with
    | bk w => exact h1 ρ1 H1 (.bk w) (Ext.refl _ _ _) hr1 rf
    | _ => exact rf.elim
  | ct v =>
    cases vf with
    | ct w => exact h1 ρ1 H1 (.ct w) (Ext.refl _ _ _) hr1 rf
    | _ => exact rf.elim
theorem snd_ifS {tt : TT} {t u : TS} {c : DT} {a b : DS} (hc : SndT G E tt c) (ha : SndS G E t a) (hb : SndS G E u b) : SndS G E (tIfS tt t u) (dIfS c a b) := fun ρ σ H es eh D rel h => by
  refine hc.bind rel h fun ρ1 H1 x eh1 u e1 rel1 v1 h1 => ?_
  subst v1
  cases x with
  | true => exact iteT (ha ρ1 σ H1 es eh1 D rel1 h1)
  | false => exact iteF (hb ρ1 σ H1 es eh1 D rel1 h1)
theorem snd_ret {te : TE} {a : DE} (ha : SndE G E te a) : SndS G E (tRet te) (dRet a) := fun ρ σ H es eh D rel h => by
  refine ha.bind rel h fun ρ1 H1 x eh1 u e1 rel1 v1 h1 => ?_
  exact h1 ρ1 H1 (.rt u) (Ext.refl _ _ _) rel1.hr v1
theorem snd_retN : SndS G E tRetN dRetN := fun ρ σ H es eh D rel h => h ρ H (.rt .non) (Ext.refl _ _ _) rel.hr (show VR G.K ρ H .non .non from vr_non.mpr rfl)
theorem snd_drop {te : TE} {a : DE} (ha : SndE G E te a) : SndS G E (tDrop te) (dDrop a) := fun ρ σ H es eh D rel h => by
  refine ha.bind rel h fun ρ1 H1 x eh1 u e1 rel1 v1 h1 => ?_
  exact h1 ρ1 H1 (.nx σ) (Ext.refl _ _ _) rel1.hr rel1.sl
theorem snd_never : SndS G E tNever dNever := fun ρ σ H es eh D rel h => h
theorem snd_break : SndS G E tBreak dBreak := fun ρ σ H es eh D rel h => h ρ H (.bk σ) (Ext.refl _ _ _) rel.hr rel.sl
theorem snd_cont : SndS G E tCont dCont := fun ρ σ H es eh D rel h => h ρ H (.ct σ) (Ext.refl _ _ _) rel.hr rel.sl
theorem snd_gname {i : Nat} : SndG G E (gName i) (dName i) := fun ρ σ H es eh x u Q rel hx h => h ρ H _ (Ext.refl _ _ _) rel.hr (rel.sl.set i hx)
theorem snd_gnil : SndGs G E gNil dGNil := fun ρ σ H es eh x u Q rel hx h => by
  cases x with
  | nil => exact ⟨vrs_nil.mp hx, h ρ H _ (Ext.refl _ _ _) rel.hr rel.sl⟩
  | cons _ _ => exact h.elim
theorem snd_gcons {t : TG} {u : TGs} {d : DG} {ds : DGs} (h1 : SndG G E t d) (h2 : SndGs G E u ds) : SndGs G E (gCons t u) (dGCons d ds) := fun ρ σ H es eh x us Q rel hx h => by
  cases x with
  | nil => exact h.elim
  | cons x xs =>
    obtain ⟨v, r, rfl, v1, v2⟩ := vrs_cons.mp hx
    refine ⟨v, r, rfl, h1.bind rel v1 h fun ρ1 H1 es1 eh1 σ1 e1 rel1 _ hw => ?_⟩
    exact h2 ρ1 σ1 H1 es1 eh1 xs r Q rel1 (v2.mono e1) hw
theorem snd_gtup {n : Nat} {u : TGs} {ds : DGs} (h2 : SndGs G E u ds) : SndG G E (gTup G.K n u) (dGTup n ds) := fun ρ σ H es eh x us Q rel hx h => by
  cases x with
  | tup xs =>
    obtain ⟨a, vs, rfl, g2, g3⟩ := vr_tup.mp hx
    simp only [dGTup] at h
    split at h
    · rename_i hl
      exact ⟨a, vs, rfl, SqT.of g2, by rw [← g3.length]; exact hl, h2 ρ σ H es eh xs vs Q rel g3 h⟩
    · exact h.elim
  | _ => exact h.elim
theorem snd_gsub {to ti : TE} {t : TSet} {a b : DE} {f : DSet} (ha : SndE G E to a) (hb : SndE G E ti b) (hf : SndSet G E t f) : SndG G E (gSub to ti t) (dGSub a b f) := fun ρ σ H es eh x u Q rel hx h => by
  refine ha.bind rel h fun ρ1 H1 o eh1 w e1 rel1 v1 h1 => ?_
  refine hb.bind rel1 h1 fun ρ2 H2 i eh2 w2 e2 rel2 v2 h2 => ?_
  refine hf ρ2 H2 eh2 o i x w w2 u _ rel2.hr (v1.mono e2) v2 ((hx.mono e1).mono e2) ?_
  cases q : f o i x eh2 with
  | ok v h' =>
    rw [q] at h2
    exact fun ρ' H' u e hr r => h2 ρ' H' σ e hr (rel2.sl.mono e)
  | er z h' =>
    rw [q] at h2
    exact h2
  | no =>
    rw [q] at h2
    exact h2
theorem snd_asg {te : TE} {g : TG} {a : DE} {d : DG} (ha : SndE G E te a) (hg : SndG G E g d) : SndS G E (tAsg te g) (dAsg a d) := fun ρ σ H es eh D rel h => by
  refine ha.bind rel h fun ρ1 H1 x eh1 u e1 rel1 v1 h1 => ?_
  refine hg.bind rel1 v1 h1 fun ρ2 H2 es2 eh2 σ2 e2 rel2 _ h2 => ?_
  exact h2 ρ2 H2 (.nx σ2) (Ext.refl _ _ _) rel2.hr rel2.sl
theorem snd_par {i j : Nat} {ta : TA} {a : DA} (ha : SndA G E ta a) : SndS G E (tPar i j ta) (dPar i j a) := fun ρ σ H es eh D rel h => by
  refine ha.bind rel h fun ρ1 H1 x eh1 u e1 rel1 v1 h1 => ?_
  split at h1
  · rename_i x y
    obtain ⟨v, w, rfl, q1, q2⟩ := vrs_two v1
    exact ⟨v, w, rfl, h1 ρ1 H1 (.nx _) (Ext.refl _ _ _) rel1.hr ((rel1.sl.set i q1).set j q2)⟩
  · exact h1.elim
theorem snd_aug {i : Nat} {te : TE} {ti : TIp} {a : DE} {f : D2} (ha : SndE G E te a) (hf : Snd2 G E ti f) : SndS G E (tAug i te ti) (dAug i a f) := fun ρ σ H es eh D rel h => by
  unfold dAug at h
  split at h
  · rename_i x hx
    obtain ⟨u, h1, h2⟩ := rel.sl.2 i x hx
    refine ⟨u, h1, ha.bind rel h fun ρ1 H1 y eh1 w e1 rel1 v1 h1 => ?_⟩
    refine hf.bind rel1.hr (h2.mono e1) v1 h1 fun ρ2 H2 z eh2 zz e2 hr2 v2 h3 => ?_
    exact h3 ρ2 H2 (.nx _) (Ext.refl _ _ _) hr2 ((rel1.sl.mono e2).set i v2)
  · exact h.elim
end
def sLst : DSet := fun o i x h => match o, i with
  | .ref n, .int k => match mutAt h n with
    | some xs => match ixN xs.length k with
      | some j => .ok () (h.set n (.lst (xs.set j x)))
      | none => .no
    | none => .no
  | _, _ => .no
section
variable {X : Cx} {ct : Nat → Addr × List Str} {E : XK} {G : Gx}
theorem put_lst {ρ : Rho} {H : Hp} {eh : EH} {n : Nat} {a : Addr} {vs us : List V} {ys : List EV} (hr : HR G ρ H eh) (hn : ρ[n]? = some (true, a)) (ha : H a = some (.lst vs)) (hy : VRs G.K ρ H ys us) :
    Ext G.K ρ ρ H (upd H a (.lst us)) ∧ HR G ρ (upd H a (.lst us)) (eh.set n (.lst ys)) := by
  have e : Ext G.K ρ ρ H (upd H a (.lst us)) := Ext.write _ hn ha (fun _ z => by cases z) fun _ _ z => by cases z
  exact ⟨e, hr.write hn rfl e ⟨us, upd_same, hy.mono e⟩⟩
theorem set_lst : PSetd X ct E sLst := ⟨_, set_list, fun ρ H eh o i x a b c Q hr ho hi hx h => by
  unfold sLst at h
  split at h
  · rename_i n k
    split at h
    · rename_i xs e1
      split at h
      · rename_i j e2
        obtain ⟨a1, vs, g1, g2, g3, g4⟩ := mut_of hr e1
        obtain ⟨a', q1, rfl⟩ := vr_ref.mp ho
        rw [g1] at q1; cases q1
        obtain ⟨e, hr'⟩ := put_lst hr g4 g2 (g3.set hx j)
        exact ⟨a1, vs, k, j, rfl, vr_int.mp hi, g2, by rw [← g3.length]; exact e2, h ρ _ () e hr' trivial⟩
      · exact h.elim
    · exact h.elim
  · exact h.elim⟩
theorem PSetd.or {d d' : DSet} (h : PSetd X ct E d) (h' : PSetd X ct E d') : PSetd X ct E (fun o i x h => (d o i x h).orElse fun _ => d' o i x h) := by
  obtain ⟨r, h1, h2⟩ := h
  obtain ⟨r', h1', h2'⟩ := h'
  refine ⟨fun o i v H Q => r o i v H Q ∨ r' o i v H Q, ?_, fun ρ H eh o i x a b c Q hr ho hi hx h => ?_⟩
  · intro pins s σ H o i v ov iv u Q I ro ri rv q
    rcases q with q | q
    · exact h1 pins s σ H o i v ov iv u Q I ro ri rv q
    · exact h1' pins s σ H o i v ov iv u Q I ro ri rv q
  · rcases wr_or h with h | h
    · exact .inl (h2 ρ H eh o i x a b c Q hr ho hi hx h)
    · exact .inr (h2' ρ H eh o i x a b c Q hr ho hi hx h)
def mApp : EV → DL := fun x xs h => match x, xs with
  | .ref n, [y] => match mutAt h n with
    | some ys => if ys.length < 100000 then .ok .non (h.set n (.lst (ys ++ [y]))) else .no
    | none => .no
  | _, _ => .no
theorem m_app : Mtd X ct E "list.append" mApp := ⟨_, mt_append, fun ρ H eh x a xs as Q hr hx hxs h => by
  unfold mApp at h
  split at h
  · rename_i n y
    split at h
    · rename_i ys e1
      split at h
      · rename_i hl
        obtain ⟨a1, vs, g1, g2, g3, g4⟩ := mut_of hr e1
        obtain ⟨a', q1, rfl⟩ := vr_ref.mp hx
        rw [g1] at q1; cases q1
        obtain ⟨v, rfl, hv⟩ := vrs_one hxs
        obtain ⟨e, hr'⟩ := put_lst hr g4 g2 (g3.append (VRs.one hv))
        exact ⟨a1, vs, v, rfl, rfl, g2, by rw [← g3.length]; exact Nat.lt_of_lt_of_le hl (by decide), h ρ _ _ e hr' (vr_non.mpr rfl)⟩
      · exact h.elim
    · exact h.elim
  · exact h.elim⟩
def dBM (f : EV → DL) (o : DE) (a : DA) : DE := fun es h => (o es h).bind fun x h1 => match x with
  | .ref n => match lstAt h1 n with
    | some _ => (a es h1).bind fun xs h2 => f x xs h2
    | none => .no
  | _ => .no
theorem snd_bmL {r : V → List V → Hp → VK → Prop} {f : EV → DL} {to : TE} {ta : TA} {o : DE} {a : DA} (hr : SndM G E r f) (ho : SndE G E to o) (ha : SndA G E ta a) : SndE G E (tBM G.K "list" r to ta) (dBM f o a) := fun ρ σ H es eh Q rel h => by
  refine ho.bind rel h fun ρ1 H1 x eh1 u e1 rel1 v1 h1 => ?_
  cases x with
  | ref n =>
    simp only at h1
    split at h1
    · rename_i ys e2
      obtain ⟨a1, vs, g1, g2, g3⟩ := lst_of rel1.hr e2
      obtain ⟨a', q1, rfl⟩ := vr_ref.mp v1
      rw [g1] at q1; cases q1
      refine ⟨.inl ⟨rfl, vs, g2⟩, ha.bind rel1 h1 fun ρ2 H2 xs eh2 us e2 rel2 v2 h2 => ?_⟩
      exact hr ρ2 H2 eh2 _ _ xs us Q rel2.hr (v1.mono e2) v2 h2
    · exact h1.elim
  | _ => exact h1.elim
variable {a b c e : Expr} {es rest : List Expr} {pos : Pos} {da db dc : DE} {dt du : DT} {dr : DA} {ds ds' : DS} {st : Stmt} {sts sts' : List Stmt}
theorem xss_nil : PSsd X ct E [] dNext := ⟨_, pss_nil, snd_next⟩
theorem xss_cons (h1 : PSd X ct E st ds) (h2 : PSsd X ct E sts ds') : PSsd X ct E (st :: sts) (dSeq ds ds') := by
  obtain ⟨t, a1, a2⟩ := h1
  obtain ⟨u, b1, b2⟩ := h2
  exact ⟨_, pss_cons a1 b1, snd_seq a2 b2⟩
theorem xss_one (h1 : PSd X ct E st ds) : PSsd X ct E [st] ds := by
  obtain ⟨t, a1, a2⟩ := h1
  exact ⟨_, pss_one a1, a2⟩
theorem xs_pass : PSd X ct E (.Pass pos) dNext := ⟨_, ps_pass, snd_next⟩
theorem xs_break : PSd X ct E (.Break pos) dBreak := ⟨_, ps_break, snd_break⟩
theorem xs_cont : PSd X ct E (.Continue pos) dCont := ⟨_, ps_continue, snd_cont⟩
theorem xs_never : PSd X ct E st dNever := ⟨_, ps_never, snd_never⟩
theorem xss_never : PSsd X ct E sts dNever := ⟨_, pss_never, snd_never⟩
theorem xs_expr (he : PEd X ct E e da) (hs : swapsWith e none pos.line X.env = pure false := by rfl) : PSd X ct E (.Expr e pos) (dDrop da) := by
  obtain ⟨t, a1, a2⟩ := he
  exact ⟨_, ps_expr a1 hs, snd_drop a2⟩
theorem xs_ret (he : PEd X ct E e da) : PSd X ct E (.Return (some e) pos) (dRet da) := by
  obtain ⟨t, a1, a2⟩ := he
  exact ⟨_, ps_ret a1, snd_ret a2⟩
theorem xs_retN : PSd X ct E (.Return none pos) dRetN := ⟨_, ps_retN, snd_retN⟩
theorem xs_if (hc : PTd X ct E c dt) (ha : PSsd X ct E sts ds) (hb : PSsd X ct E sts' ds') : PSd X ct E (.If c sts sts' pos) (dIfS dt ds ds') := by
  obtain ⟨t, a1, a2⟩ := hc
  obtain ⟨u, b1, b2⟩ := ha
  obtain ⟨w, c1, c2⟩ := hb
  exact ⟨_, ps_if a1 b1 c1, snd_ifS a2 b2 c2⟩
theorem xg_name (i : Nat) {x : Str} (hN : X.N.Nodup) (hi : X.N[i]? = some x := by rfl) (hx : Loc X.env.scope x := by first | exact Or.inl rfl | exact Or.inr rfl) (hf : X.fn x = true ∨ X.env.scope.names.lookup x = some .local := by first | exact .inl rfl | exact .inr rfl | assumption) : PGd X ct E (.Name x pos) (dName i) :=
  ⟨_, pg_name hN hi hx hf, snd_gname⟩
theorem xgs_nil : PGsd X ct E [] dGNil := ⟨_, pgs_nil, snd_gnil⟩
theorem xgs_cons {d : DG} {d' : DGs} (h1 : PGd X ct E e d) (h2 : PGsd X ct E es d') (hs : (assignEach (e :: es) X.env).map (·.2) = assign e X.env :: (assignEach es X.env).map (·.2) := by rfl) : PGsd X ct E (e :: es) (dGCons d d') := by
  obtain ⟨t, a1, a2⟩ := h1
  obtain ⟨u, b1, b2⟩ := h2
  exact ⟨_, pgs_cons a1 b1 hs, snd_gcons a2 b2⟩
theorem xg_tup {k n : Nat} {d' : DGs} (hc : X.calm = true) (h : PGsd X ct E es d') (hn : (assignEach es X.env).length = n := by rfl) (hst : (assignEach es X.env).findIdx? (·.1) = none := by rfl) : PGd X ct E (.Tuple es k pos) (dGTup n d') := by
  obtain ⟨t, a1, a2⟩ := h
  exact ⟨_, pg_tup hc a1 hn hst, snd_gtup a2⟩
theorem xg_sub {f : DSet} (ha : PEd X ct E a da) (hb : PEd X ct E b db) (hf : PSetd X ct E f) (hh : ∀ v, assign (.Subscript a b pos) X.env v = (do
      let ov ← holding [v] (eval a X.env)
      let iv ← holding [v, ov] (eval b X.env)
      standAt pos
      holding [v, ov, iv] (setItem ov iv v)
      release [v, ov, iv] []) := by intro _; rfl) : PGd X ct E (.Subscript a b pos) (dGSub da db f) := by
  obtain ⟨t, a1, a2⟩ := ha
  obtain ⟨u, b1, b2⟩ := hb
  obtain ⟨w, c1, c2⟩ := hf
  exact ⟨_, pg_sub a1 b1 c1 hh, snd_gsub a2 b2 c2⟩
theorem xs_asg {tg : Expr} {d : DG} (he : PEd X ct E e da) (hg : PGd X ct E tg d) (hs : swapsWithSole [tg] e pos.line X.env = pure false := by rfl) (hw : swappedStores [tg] e X.env = pure none := by rfl)
    (h1 : (assignEach [tg] X.env).map (·.2) = [assign tg X.env] := by rfl) : PSd X ct E (.Assign [tg] e pos) (dAsg da d) := by
  obtain ⟨t, a1, a2⟩ := he
  obtain ⟨u, b1, b2⟩ := hg
  exact ⟨_, ps_asg a1 b1 hs hw h1, snd_asg a2 b2⟩
theorem xs_set (i : Nat) {x : Str} {pos' : Pos} (hN : X.N.Nodup) (he : PEd X ct E e da) (hi : X.N[i]? = some x := by rfl) (hx : Loc X.env.scope x := by first | exact Or.inl rfl | exact Or.inr rfl) (hs : swapsWith e (some (.Name x pos')) pos.line X.env = pure false := by rfl)
    (hf : X.fn x = true ∨ X.env.scope.names.lookup x = some .local := by first | exact .inl rfl | exact .inr rfl | assumption) : PSd X ct E (.Assign [.Name x pos'] e pos) (dAsg da (dName i)) := by
  obtain ⟨t, a1, a2⟩ := he
  exact ⟨_, ps_set hN hi hx a1 hs hf, snd_asg a2 snd_gname⟩
theorem xs_par (i j : Nat) {x y : Str} {px py pt : Pos} {kt k2 pt2} (hc : X.calm = true) (hN : X.N.Nodup) (ha : PAd X ct E [a, b] dr) (hw : swappedStores [.Tuple [.Name x px, .Name y py] kt pt] (.Tuple [a, b] k2 pt2) X.env = pure (some [x, y]))
    (hi : X.N[i]? = some x := by rfl) (hj : X.N[j]? = some y := by rfl) (hij : i ≠ j := by decide) (hx : X.env.scope.names.lookup x = some .local := by rfl) (hy : X.env.scope.names.lookup y = some .local := by rfl)
    (hs : swapsWithSole [.Tuple [.Name x px, .Name y py] kt pt] (.Tuple [a, b] k2 pt2) pos.line X.env = pure false := by rfl) : PSd X ct E (.Assign [.Tuple [.Name x px, .Name y py] kt pt] (.Tuple [a, b] k2 pt2) pos) (dPar i j dr) := by
  obtain ⟨t, a1, a2⟩ := ha
  exact ⟨_, ps_par hc hN hi hj hij hx hy a1 hw hs, snd_par a2⟩
theorem xs_aug (i : Nat) {x : Str} {op : Operator} {f : D2} {pos' : Pos} (hN : X.N.Nodup) (he : PEd X ct E e da) (ho : Opd X ct E (inplaceOp op) f) (hi : X.N[i]? = some x := by rfl) (hx : Loc X.env.scope x := by first | exact Or.inl rfl | exact Or.inr rfl)
    (hf : X.fn x = true ∨ X.env.scope.names.lookup x = some .local := by first | exact .inl rfl | exact .inr rfl | assumption) : PSd X ct E (.AugAssign (.Name x pos') op e pos) (dAug i da f) := by
  obtain ⟨t, a1, a2⟩ := he
  obtain ⟨r, b1, b2⟩ := ho
  exact ⟨_, ps_aug hN hi hx a1 b1 hf, snd_aug a2 b2⟩
theorem o_iadd : Opd X ct E (inplaceOp .Add) fAddI := ⟨_, iop_add, snd_I0 fun _ _ _ _ => vr_int.mpr rfl⟩
theorem o_isub : Opd X ct E (inplaceOp .Sub) fSub := ⟨_, iop_sub, snd_I0 fun _ _ _ _ => vr_int.mpr rfl⟩
theorem xe_bmL {name : Str} {apos cpos : Pos} {id : String} {f : EV → DL} (pa : PlainAttrs "list") (slot : Slot "list" name id) (hty : typeOf (.builtin id) = pure (.type "method_descriptor")) (hm : Mtd X ct E id f) (ho : PEd X ct E a da) (ha : PAd X ct E (e :: es) dr)
    (hbase : attributeBase a name X.env (eval a X.env) = eval a X.env := by rfl)
    (hfew : ((backTo cpos (starEach (e :: es) X.env)).all (fun x => !x.1) && (backToKw cpos (keywordEach [] X.env)).all (fun x => x.1.isSome)
      && decide ((e :: es).length + ([] : List Keyword).length + (if ([] : List Keyword).isEmpty then 0 else 1) < 30)) = true := by rfl)
    (hline : (apos.endLine == cpos.line) = true := by rfl) (hs : starEach (e :: es) X.env = (false, eval e X.env) :: starEach es X.env := by rfl) (hplain : (backTo cpos (starEach es X.env)).any (·.1) = false := by rfl) :
    PEd X ct E (.Call (.Attribute a name apos) (e :: es) [] cpos) (dBM f da dr) := by
  obtain ⟨r, m1, m2⟩ := hm
  obtain ⟨t, a1, a2⟩ := ho
  obtain ⟨u, b1, b2⟩ := ha
  exact ⟨_, pe_bm pa slot hty m1 a1 b1 hbase hfew hline hs hplain, snd_bmL m2 a2 b2⟩
theorem xe_append {apos cpos : Pos} (ho : PEd X ct E a da) (ha : PAd X ct E [e] dr)
    (hbase : attributeBase a "append" X.env (eval a X.env) = eval a X.env := by rfl)
    (hfew : ((backTo cpos (starEach [e] X.env)).all (fun x => !x.1) && (backToKw cpos (keywordEach [] X.env)).all (fun x => x.1.isSome)
      && decide ([e].length + ([] : List Keyword).length + (if ([] : List Keyword).isEmpty then 0 else 1) < 30)) = true := by rfl)
    (hline : (apos.endLine == cpos.line) = true := by rfl) (hs : starEach [e] X.env = (false, eval e X.env) :: starEach [] X.env := by rfl) (hplain : (backTo cpos (starEach [] X.env)).any (·.1) = false := by rfl) :
    PEd X ct E (.Call (.Attribute a "append" apos) [e] [] cpos) (dBM mApp da dr) := xe_bmL PySem.F.plainAttrs_list PySem.F.slot_list_append PySem.F.type_list_append m_app ho ha hbase hfew hline hs hplain
end
structure Wlk where
  src : Option Nat
  xs : List EV
  tl : Nat → EV → EV
def Wlk.cur (it : Wlk) (h : EH) : Option (List EV) := match it.src with
  | none => some it.xs
  | some n => lstAt h n
def JR (G : Gx) (ρ0 : Rho) (H0 : Hp) (it : Wlk) (J : It) : Prop := ∀ ρ H eh xs, Ext G.K ρ0 ρ H0 H → HR G ρ H eh → it.cur eh = some xs →
  (∀ (i : Nat) (x : EV), xs[i]? = some x → J.go i H ∧ ∀ y H', J.yld i H y H' → Ext G.K ρ ρ H H' ∧ HR G ρ H' eh ∧ VR G.K ρ H' (it.tl i x) y) ∧ (∀ (i : Nat), xs[i]? = none → J.stop i H)
abbrev DI := ES → EH → Res Wlk
abbrev SndI (G : Gx) (E : XK) (t : TI) (d : DI) : Prop := Sound G E (JR G) t d
def forGo (it : Wlk) (g : DG) (b : DS) : Nat → Nat → DS
  | 0, _, _, _ => .no
  | m + 1, i, es, h => match it.cur h with
    | none => .no
    | some xs => match xs[i]? with
      | none => .ok (.nx es) h
      | some x => (g (it.tl i x) es h).bind fun es1 h1 => (b es1 h1).bind fun f h2 => match f with
        | .nx es2 => forGo it g b m (i + 1) es2 h2
        | .ct es2 => forGo it g b m (i + 1) es2 h2
        | .bk es2 => .ok (.nx es2) h2
        | .rt v => .ok (.rt v) h2
def dFor (di : DI) (g : DG) (b : DS) : DS := fun es h => (di es h).bind fun it h1 => match it.cur h1 with
  | none => .no
  | some xs => forGo it g b (xs.length + 1) 0 es h1
def dItL (a : DE) : DI := fun es h => (a es h).bind fun x h1 => match x with
  | .ref n => match lstAt h1 n with
    | some _ => .ok ⟨some n, [], fun _ x => x⟩ h1
    | none => .no
  | _ => .no
def dItT (a : DE) : DI := fun es h => (a es h).bind fun x h1 => match x with
  | .tup xs => .ok ⟨none, xs, fun _ x => x⟩ h1
  | _ => .no
def rng (lo : Int) (n : Nat) : List EV := (List.range n).map fun (i : Nat) => .int (lo + i)
def dItR1 (a : DA) : DI := fun es h => (a es h).bind fun xs h1 => match xs with
  | [.int n] => if decide (-100000 ≤ n) && decide (n ≤ 100000) = true then .ok ⟨none, rng 0 n.toNat, fun _ x => x⟩ h1 else .no
  | _ => .no
def dItR2 (a : DA) : DI := fun es h => (a es h).bind fun xs h1 => match xs with
  | [.int lo, .int n] => if decide (-100000 ≤ n) && decide (n ≤ 100000) && decide (-100000 ≤ lo) && decide (lo ≤ 100000) = true then .ok ⟨none, rng lo (n - lo).toNat, fun _ x => x⟩ h1 else .no
  | _ => .no
section
variable {X : Cx} {ct : Nat → Addr × List Str} {E : XK} {G : Gx}
theorem jr_lst {ρ : Rho} {H : Hp} {n : Nat} {a : Addr} (h : adr ρ n = some a) : JR G ρ H ⟨some n, [], fun _ x => x⟩ (Itl G.K a) := fun ρ' H' eh xs e hr hc => by
  obtain ⟨a', vs, g1, g2, g3⟩ := lst_of hr (show lstAt eh n = some xs from hc)
  rw [e.get h] at g1; cases g1
  refine ⟨fun i x hx => ?_, fun i hx => ⟨vs, g2, ?_⟩⟩
  · obtain ⟨v, h1, h2⟩ := g3.get hx
    refine ⟨⟨vs, v, g2, h1⟩, fun y H2 hy => ?_⟩
    obtain ⟨rfl, hy⟩ := hy
    have := hy vs g2
    rw [h1] at this
    cases this
    exact ⟨Ext.refl _ _ _, hr, h2⟩
  · rw [← g3.length]
    exact List.getElem?_eq_none_iff.mp hx
theorem jr_tup {ρ : Rho} {H : Hp} {a : Addr} {xs : List EV} {vs : List V} (h : H a = some (.tup vs)) (hv : VRs G.K ρ H xs vs) : JR G ρ H ⟨none, xs, fun _ x => x⟩ (Itt G.K a) := fun ρ' H' eh ys e hr hc => by
  cases hc
  have g2 := e.tup _ _ h
  have g3 := hv.mono e
  refine ⟨fun i x hx => ?_, fun i hx => ⟨vs, SqT.of g2, ?_⟩⟩
  · obtain ⟨v, h1, h2⟩ := g3.get hx
    refine ⟨⟨vs, v, SqT.of g2, h1⟩, fun y H2 hy => ?_⟩
    obtain ⟨rfl, hy⟩ := hy
    have := hy vs (SqT.of g2)
    rw [h1] at this
    cases this
    exact ⟨Ext.refl _ _ _, hr, h2⟩
  · rw [← g3.length]
    exact List.getElem?_eq_none_iff.mp hx
theorem rng_get {lo : Int} {n i : Nat} {x : EV} (h : (rng lo n)[i]? = some x) : i < n ∧ x = .int (lo + i) := by
  unfold rng at h
  rw [List.getElem?_map] at h
  obtain ⟨j, h1, rfl⟩ := Option.map_eq_some_iff.mp h
  obtain ⟨h2, h3⟩ := List.getElem?_eq_some_iff.mp h1
  simp only [List.length_range] at h2
  simp only [List.getElem_range] at h3
  subst h3
  exact ⟨h2, rfl⟩
theorem rng_len (lo : Int) (n : Nat) : (rng lo n).length = n := by simp [rng]
theorem jr_rng {ρ : Rho} {H : Hp} {lo : Int} {n : Nat} : JR G ρ H ⟨none, rng lo n, fun _ x => x⟩ (Itr lo n) := fun ρ' H' eh ys e hr hc => by
  cases hc
  refine ⟨fun i x hx => ?_, fun i hx => ?_⟩
  · obtain ⟨h1, rfl⟩ := rng_get hx
    refine ⟨h1, fun y H2 hy => ?_⟩
    obtain ⟨rfl, rfl⟩ := hy
    exact ⟨Ext.refl _ _ _, hr, vr_int.mpr rfl⟩
  · have := List.getElem?_eq_none_iff.mp hx
    rw [rng_len] at this
    exact this
theorem snd_itL {tl : TE} {a : DE} (ha : SndE G E tl a) : SndI G E (iList G.K tl) (dItL a) := fun ρ σ H es eh Q rel h => by
  refine ha.bind rel h fun ρ1 H1 x eh1 u e1 rel1 v1 h1 => ?_
  cases x with
  | ref n =>
    simp only at h1
    split at h1
    · rename_i xs e2
      obtain ⟨a1, vs, g1, g2, g3⟩ := lst_of rel1.hr e2
      obtain ⟨a', q1, rfl⟩ := vr_ref.mp v1
      rw [g1] at q1; cases q1
      exact ⟨a1, rfl, ⟨vs, g2⟩, h1 ρ1 H1 _ (Ext.refl _ _ _) rel1.hr (jr_lst g1)⟩
    · exact h1.elim
  | _ => exact h1.elim
theorem snd_itT {tl : TE} {a : DE} (ha : SndE G E tl a) : SndI G E (iTup G.K tl) (dItT a) := fun ρ σ H es eh Q rel h => by
  refine ha.bind rel h fun ρ1 H1 x eh1 u e1 rel1 v1 h1 => ?_
  cases x with
  | tup xs =>
    obtain ⟨a1, vs, rfl, g2, g3⟩ := vr_tup.mp v1
    exact ⟨a1, rfl, ⟨vs, SqT.of g2⟩, h1 ρ1 H1 _ (Ext.refl _ _ _) rel1.hr (jr_tup g2 g3)⟩
  | _ => exact h1.elim
theorem snd_itR1 {ta : TA} {a : DA} (ha : SndA G E ta a) : SndI G E (iRng1 ta) (dItR1 a) := fun ρ σ H es eh Q rel h => by
  refine ha.bind rel h fun ρ1 H1 x eh1 u e1 rel1 v1 h1 => ?_
  split at h1
  · rename_i n
    split at h1
    · rename_i hc
      simp only [Bool.and_eq_true, decide_eq_true_eq] at hc
      obtain ⟨v, rfl, hv⟩ := vrs_one v1
      rw [vr_int.mp hv]
      exact ⟨n, rfl, by omega, by omega, h1 ρ1 H1 _ (Ext.refl _ _ _) rel1.hr jr_rng⟩
    · exact h1.elim
  · exact h1.elim
theorem snd_itR2 {ta : TA} {a : DA} (ha : SndA G E ta a) : SndI G E (iRng2 ta) (dItR2 a) := fun ρ σ H es eh Q rel h => by
  refine ha.bind rel h fun ρ1 H1 x eh1 u e1 rel1 v1 h1 => ?_
  split at h1
  · rename_i lo n
    split at h1
    · rename_i hc
      simp only [Bool.and_eq_true, decide_eq_true_eq] at hc
      obtain ⟨v, w, rfl, hv, hw⟩ := vrs_two v1
      rw [vr_int.mp hv, vr_int.mp hw]
      exact ⟨lo, n, rfl, ⟨by omega, by omega, by omega, by omega⟩, h1 ρ1 H1 _ (Ext.refl _ _ _) rel1.hr jr_rng⟩
    · exact h1.elim
  · exact h1.elim
theorem snd_for {wi : TI} {g : TG} {tb : TS} {di : DI} {dg : DG} {b : DS} (hi : SndI G E wi di) (hg : SndG G E g dg) (hb : SndS G E tb b) : SndS G E (tFor wi g tb) (dFor di dg b) := fun ρ σ H es eh D rel h => by
  refine hi.bind rel h fun ρ1 H1 it eh1 J e1 rel1 jr h1 => ?_
  split at h1
  · exact h1.elim
  · rename_i xs0 _
    refine ⟨fun i m σ H => ∃ ρ' es eh, Ext G.K ρ1 ρ' H1 H ∧ Rel G ρ' σ H es eh ∧ wr G (RF G) ρ' H (forGo it dg b m i es eh) (qD D) E, ⟨_, ρ1, es, eh1, Ext.refl _ _ _, rel1, h1⟩, ?_⟩
    rintro i m σ' H' ⟨ρ', es', eh', e', rel', hw⟩
    cases m with
    | zero => exact hw.elim
    | succ m =>
      unfold forGo at hw
      split at hw
      · exact hw.elim
      · rename_i xs hxs
        obtain ⟨j1, j2⟩ := jr ρ' H' eh' xs e' rel'.hr hxs
        split at hw
        · rename_i hn
          exact .inl ⟨j2 i hn, hw ρ' H' (.nx σ') (Ext.refl _ _ _) rel'.hr rel'.sl⟩
        · rename_i x hx
          obtain ⟨go, yl⟩ := j1 i x hx
          refine .inr ⟨go, fun σ2 H2 => ∃ ρ2 es2 eh2, Ext G.K ρ1 ρ2 H1 H2 ∧ Rel G ρ2 σ2 H2 es2 eh2 ∧ wr G (RF G) ρ2 H2 (forGo it dg b m (i + 1) es2 eh2) (qD D) E, fun σ2 H2 q => ⟨m, Nat.lt_succ_self m, q⟩, fun y H3 hy => ?_⟩
          obtain ⟨e3, hr3, v3⟩ := yl y H3 hy
          refine hg.bind (rel'.ext e3 hr3) v3 (hw.mono e3) fun ρ4 H4 es4 eh4 σ4 e4 rel4 _ h4 => ?_
          refine hb.bind rel4 h4 fun ρ5 H5 f eh5 vf e5 hr5 rf h5 => ?_
          have et := ((e'.trans e3).trans e4).trans e5
          cases f with
          | nx es5 =>
            cases vf with
            | nx σ5 => exact ⟨ρ5, es5, eh5, et, ⟨rf, hr5⟩, h5⟩
            | _ => exact rf.elim
          | ct es5 =>
            cases vf with
            | ct σ5 => exact ⟨ρ5, es5, eh5, et, ⟨rf, hr5⟩, h5⟩
            | _ => exact rf.elim
          | bk es5 =>
            cases vf with
            | bk σ5 => exact h5 ρ5 H5 (.nx σ5) (Ext.refl _ _ _) hr5 rf
            | _ => exact rf.elim
          | rt v =>
            cases vf with
            | rt w => exact h5 ρ5 H5 (.rt w) (Ext.refl _ _ _) hr5 rf
            | _ => exact rf.elim
def PId (X : Cx) (ct : Nat → Addr × List Str) (E : XK) (tg iter : Expr) (d : DI) : Prop := ∃ t, PI X tg iter t ∧ SndI ⟨X.K, ct⟩ E t d
variable {tg iter a b : Expr} {da db : DE} {dr : DA} {di : DI} {dg : DG} {ds : DS} {body : List Stmt} {pos p : Pos}
theorem xi_list (h : PEd X ct E a da) : PId X ct E tg a (dItL da) := by
  obtain ⟨t, h1, h2⟩ := h
  exact ⟨_, pi_list h1, snd_itL h2⟩
theorem xi_tup (h : PEd X ct E a da) : PId X ct E tg a (dItT da) := by
  obtain ⟨t, h1, h2⟩ := h
  exact ⟨_, pi_tup h1, snd_itT h2⟩
theorem xi_rng1 (hg : Gl X "range") (hm : X.mg "range" = none) (ha : PAd X ct E [a] dr) (hs : starEach [a] X.env = [(false, eval a X.env)] := by rfl) : PId X ct E tg (.Call (.Name "range" p) [a] [] pos) (dItR1 dr) := by
  obtain ⟨t, h1, h2⟩ := ha
  exact ⟨_, pi_range1 hg hm h1 hs, snd_itR1 h2⟩
theorem xi_rng2 (hg : Gl X "range") (hm : X.mg "range" = none) (ha : PAd X ct E [a, b] dr) (hs : starEach [a, b] X.env = [(false, eval a X.env), (false, eval b X.env)] := by rfl) (hs2 : starEach [b] X.env = [(false, eval b X.env)] := by rfl) :
    PId X ct E tg (.Call (.Name "range" p) [a, b] [] pos) (dItR2 dr) := by
  obtain ⟨t, h1, h2⟩ := ha
  exact ⟨_, pi_range2 hg hm h1 hs hs2, snd_itR2 h2⟩
theorem xs_for (hp : PassesOwn (model X.prog X.w) X.A X.env X.xe) (hc : X.calm = true) (hi : PId X ct E tg iter di) (hg : PGd X ct E tg dg) (hb : PSsd X ct E body ds)
    (hs : ∀ x, foldedSetIterable iter X.env x = pure x := by intro _; rfl) : PSd X ct E (.For tg iter body [] pos) (dFor di dg ds) := by
  obtain ⟨t, a1, a2⟩ := hi
  obtain ⟨u, b1, b2⟩ := hg
  obtain ⟨w, c1, c2⟩ := hb
  exact ⟨_, ps_for hp hc a1 b1 c1 hs, snd_for a2 b2 c2⟩
end
def lcGo (it : Wlk) (g : DG) (t : DT) (e : DE) (vs : List Nat) : Nat → Nat → List EV → ES → EH → Res (List EV)
  | 0, _, _, _, _ => .no
  | m + 1, i, acc, es, h => match it.cur h with
    | none => .no
    | some xs => match xs[i]? with
      | none => .ok acc h
      | some x => (g (it.tl i x) (wip es vs) h).bind fun es1 h1 => (t es1 h1).bind fun b h2 => if b = true then (e es1 h2).bind fun y h3 => (if acc.length < 50000 then lcGo it g t e vs m (i + 1) (acc ++ [y]) es h3 else .no) else lcGo it g t e vs m (i + 1) acc es h2
def dLc (di : DI) (g : DG) (t : DT) (e : DE) (vs : List Nat) : DE := fun es h => (di es h).bind fun it h1 => match it.cur h1 with
  | none => .no
  | some xs => (lcGo it g t e vs (xs.length + 1) 0 [] es h1).bind fun ys h2 => .ok (.ref h2.length) (h2 ++ [.lst ys])
def OnlyIn (g : TG) (vs : List Nat) : Prop := ∀ (τ : L2.St) (v : V) (σ : L2.St) (H : Hp) (Q Q' : L2.St → Hp → Prop), wipe σ vs = τ → (∀ σ2 H2, wipe σ2 vs = τ → Q σ2 H2 → Q' σ2 H2) → g v σ H Q → g v σ H Q'
def OnlyIns (g : TGs) (vs : List Nat) : Prop := ∀ (τ : L2.St) (v : List V) (σ : L2.St) (H : Hp) (Q Q' : L2.St → Hp → Prop), wipe σ vs = τ → (∀ σ2 H2, wipe σ2 vs = τ → Q σ2 H2 → Q' σ2 H2) → g v σ H Q → g v σ H Q'
theorem wipe_set {σ : L2.St} {i : Nat} {x : Option V} : ∀ {vs : List Nat}, i ∈ vs → wipe (σ.set i x) vs = wipe σ vs := by
  have comm : ∀ (vs : List Nat) (σ : L2.St) (i : Nat), i ∉ vs → ∀ x, wipe (σ.set i x) vs = (wipe σ vs).set i x := by
    intro vs
    induction vs with
    | nil => intro σ i _ x; rfl
    | cons v vs ih =>
      intro σ i hi x
      simp only [List.mem_cons, not_or] at hi
      show (wipe (σ.set i x) vs).set v none = ((wipe σ vs).set v none).set i x
      rw [ih σ i hi.2 x, List.set_comm _ _ hi.1]
  intro vs hi
  induction vs with
  | nil => cases hi
  | cons v vs ih =>
    show (wipe (σ.set i x) vs).set v none = (wipe σ vs).set v none
    by_cases h : i ∈ vs
    · rw [ih h]
    · have e : i = v := by
        rcases List.mem_cons.mp hi with e | e
        · exact e
        · exact absurd e h
      subst e
      rw [comm vs σ i h x, List.set_set]
theorem wipe_wipe {σ : L2.St} : ∀ vs : List Nat, wipe (wipe σ vs) vs = wipe σ vs := by
  have key : ∀ (ws vs : List Nat), (∀ v ∈ ws, v ∈ vs) → wipe (wipe σ ws) vs = wipe σ vs := by
    intro ws
    induction ws with
    | nil => intro vs _; rfl
    | cons w ws ih =>
      intro vs h
      show wipe ((wipe σ ws).set w none) vs = wipe σ vs
      rw [wipe_set (h w List.mem_cons_self)]
      exact ih vs fun v hv => h v (List.mem_cons_of_mem _ hv)
  exact fun vs => key vs vs fun _ h => h
theorem only_name {i : Nat} {vs : List Nat} (h : i ∈ vs) : OnlyIn (gName i) vs := fun τ v σ H Q Q' hw hq q => hq _ _ ((wipe_set h).trans hw) q
theorem only_nil {vs : List Nat} : OnlyIns gNil vs := fun τ v σ H Q Q' hw hq q => ⟨q.1, hq _ _ hw q.2⟩
theorem only_cons {g : TG} {u : TGs} {vs : List Nat} (h : OnlyIn g vs) (hu : OnlyIns u vs) : OnlyIns (gCons g u) vs := fun τ xs σ H Q Q' hw hq q => by
  obtain ⟨v, r, e, q⟩ := q
  exact ⟨v, r, e, h τ v σ H _ _ hw (fun σ1 H1 w1 q1 => hu τ r σ1 H1 Q Q' w1 hq q1) q⟩
theorem only_tup {K : Fg} {n : Nat} {u : TGs} {vs : List Nat} (hu : OnlyIns u vs) : OnlyIn (gTup K n u) vs := fun τ v σ H Q Q' hw hq q => by
  obtain ⟨a, xs, e, h1, hl, q⟩ := q
  exact ⟨a, xs, e, h1, hl, hu τ xs σ H Q Q' hw hq q⟩
section
variable {X : Cx} {ct : Nat → Addr × List Str} {E : XK} {G : Gx}
theorem SR.bare {K : Fg} {ρ : Rho} {H H' : Hp} {es : ES} {σ : L2.St} (e : Ext0 K ρ ρ H H') (h : SR K ρ H es σ) : SR K ρ H' es σ := ⟨h.1, fun i v hv => by
  obtain ⟨u, h1, h2⟩ := h.2 i v hv
  exact ⟨u, h1, VR.mono0 e _ _ h2⟩⟩
theorem ext0_upd {K : Fg} {ρ : Rho} {H : Hp} {p : Addr} {xs : List V} {u : HO} (h : H p = some (.lst xs)) : Ext0 K ρ ρ H (upd H p u) where
  pre := ⟨[], by simp⟩
  tup := fun a ys q => by
    rw [upd_ne]
    · exact q
    · intro z
      subst z
      rw [h] at q
      cases q
  frz := fun a o v q => by
    rw [upd_ne]
    · exact q
    · intro z
      subst z
      rw [h] at q
      cases q
theorem snd_lc {wi : TI} {g : TG} {tt : TT} {te : TE} {vs : List Nat} {di : DI} {dg : DG} {dt : DT} {de : DE} (hi : SndI G E wi di) (hg : SndG G E g dg) (ho : OnlyIn g vs) (ht : SndT G E tt dt) (he : SndE G E te de) : SndE G E (tLc wi g tt te vs) (dLc di dg dt de vs) := fun ρ σ H es eh Q rel h => by
  refine hi.bind rel h fun ρ1 H1 it eh1 J e1 rel1 jr h1 => ?_
  split at h1
  · exact h1.elim
  · rename_i xs0 _
    intro Dl hD
    refine ⟨fun i m H => ∃ ρ' eh acc us, Ext G.K ρ1 ρ' H1 H ∧ HR G ρ' H eh ∧ (true, Dl) ∉ ρ' ∧ H Dl = some (.lst us) ∧ VRs G.K ρ' H acc us ∧
      wr G (VR G.K) ρ1 H1 ((lcGo it dg dt de vs m i acc es eh).bind fun ys h2 => .ok (.ref h2.length) (h2 ++ [.lst ys])) Q E,
      ⟨_, ρ1, eh1, [], [], Ext.side _ hD, rel1.hr.side _ hD, rel1.hr.fresh hD, upd_same, vrs_nil.mpr rfl, h1⟩, ?_⟩
    rintro i m H' ⟨ρ', eh', acc, us, e', hr', hn, hDl, hacc, hw⟩
    cases m with
    | zero => exact hw.elim
    | succ m =>
      unfold lcGo at hw
      split at hw
      · exact hw.elim
      · rename_i xs hxs
        obtain ⟨j1, j2⟩ := jr ρ' H' eh' xs e' hr' hxs
        split at hw
        · rename_i hnone
          refine .inl ⟨j2 i hnone, ?_⟩
          have e5 := e'.push hD
          have e0 : Ext0 G.K ρ' (ρ' ++ [(true, Dl)]) H' H' := ⟨⟨[(true, Dl)], rfl⟩, fun _ _ q => q, fun _ _ _ q => q⟩
          exact hw (ρ' ++ [(true, Dl)]) H' _ e5 (hr'.push hn rfl ⟨us, hDl, VRs.mono0 e0 _ _ hacc⟩) (vr_ref.mpr ⟨Dl, last_get hr'.len, rfl⟩)
        · rename_i x hx
          obtain ⟨go, yl⟩ := j1 i x hx
          refine .inr ⟨go, fun H2 => ∃ ρ2 eh2 acc2 us2, Ext G.K ρ1 ρ2 H1 H2 ∧ HR G ρ2 H2 eh2 ∧ (true, Dl) ∉ ρ2 ∧ H2 Dl = some (.lst us2) ∧ VRs G.K ρ2 H2 acc2 us2 ∧
            wr G (VR G.K) ρ1 H1 ((lcGo it dg dt de vs m (i + 1) acc2 es eh2).bind fun ys h2 => .ok (.ref h2.length) (h2 ++ [.lst ys])) Q E, fun H2 q => ⟨m, Nat.lt_succ_self m, q⟩, fun y H3 hy => ?_⟩
          obtain ⟨e3, hr3, v3⟩ := yl y H3 hy
          have keepD : ∀ {ρa ρb : Rho} {Ha Hb : Hp} {vs : List V}, Ext G.K ρa ρb Ha Hb → (true, Dl) ∉ ρa → Ha Dl = some (.lst vs) → (true, Dl) ∉ ρb ∧ Hb Dl = some (.lst vs) := fun e hn h => by
            refine ⟨fun hm => ?_, e.rest _ _ h hn⟩
            rcases e.new _ hm with z | z
            · exact hn z
            · rw [h] at z; cases z
          have d3 := keepD e3 hn hDl
          have sr : SR G.K ρ' H3 (wip es vs) (wipe σ vs) := ((rel1.sl.mono e').mono e3).wip vs
          have en : Ext G.K ρ1 ρ' H1 H3 := e'.trans e3
          refine ho (wipe σ vs) y (wipe σ vs) H3 (fun σ2 H2 => tt σ2 H2 fun b H3 =>
              if b = true then te σ2 H3 fun y H4 => ∃ acc, H4 Dl = some (.lst acc) ∧ acc.length < sizeLine ∧ (∃ ρ2 eh2 acc2 us2, Ext G.K ρ1 ρ2 H1 (upd H4 Dl (.lst (acc ++ [y]))) ∧ HR G ρ2 (upd H4 Dl (.lst (acc ++ [y]))) eh2 ∧ (true, Dl) ∉ ρ2 ∧ (upd H4 Dl (.lst (acc ++ [y]))) Dl = some (.lst us2) ∧ VRs G.K ρ2 (upd H4 Dl (.lst (acc ++ [y]))) acc2 us2 ∧
                wr G (VR G.K) ρ1 H1 ((lcGo it dg dt de vs m (i + 1) acc2 es eh2).bind fun ys h2 => .ok (.ref h2.length) (h2 ++ [.lst ys])) Q E)
              else ∃ ρ2 eh2 acc2 us2, Ext G.K ρ1 ρ2 H1 H3 ∧ HR G ρ2 H3 eh2 ∧ (true, Dl) ∉ ρ2 ∧ H3 Dl = some (.lst us2) ∧ VRs G.K ρ2 H3 acc2 us2 ∧
                wr G (VR G.K) ρ1 H1 ((lcGo it dg dt de vs m (i + 1) acc2 es eh2).bind fun ys h2 => .ok (.ref h2.length) (h2 ++ [.lst ys])) Q E) _ (wipe_wipe vs) (fun σ2 H2 w q => ⟨w, q⟩) ?_
          refine hg ρ' (wipe σ vs) H3 (wip es vs) eh' (it.tl i x) y _ ⟨sr, hr3⟩ v3 ?_
          · skip
            cases qg : dg (it.tl i x) (wip es vs) eh' with
            | no =>
              rw [qg] at hw
              exact hw
            | er z h' =>
              rw [qg] at hw
              exact fun ρ' H' c own e' hr q => hw ρ' H' c own (en.trans e') hr q
            | ok es4 eh4 =>
              rw [qg] at hw
              intro ρ4 H4 σ4 e4 hr4 sr4
              have d4 := keepD e4 d3.1 d3.2
              have hw4 : wr G (VR G.K) ρ1 H1 ((dt es4 eh4).bind fun b h2 => (if b = true then (de es4 h2).bind fun y h3 => (if acc.length < 50000 then lcGo it dg dt de vs m (i + 1) (acc ++ [y]) es h3 else .no) else lcGo it dg dt de vs m (i + 1) acc es h2).bind fun ys h2 => .ok (.ref h2.length) (h2 ++ [.lst ys])) Q E := by
                have hw' := hw
                simp only [bind_ok] at hw'
                cases qt : dt es4 eh4 with
                | ok b h2 => rw [qt] at hw'; exact hw'
                | er z h2 => rw [qt] at hw'; exact hw'
                | no => rw [qt] at hw'; exact hw'
              refine ht.bind0 ⟨sr4, hr4⟩ (en.trans e4) hw4 fun ρ5 H5 b eh5 b' e5 rel5 v5 h5 => ?_
              subst v5
              have d5 := keepD e5 d4.1 d4.2
              have e15 := (en.trans e4).trans e5
              cases b with
              | false =>
                refine iteF ⟨ρ5, eh5, acc, us, e15, rel5.hr, d5.1, d5.2, ((hacc.mono e3).mono e4).mono e5, h5⟩
              | true =>
                have h5' : wr G (VR G.K) ρ1 H1 ((de es4 eh5).bind fun y h3 => (if acc.length < 50000 then lcGo it dg dt de vs m (i + 1) (acc ++ [y]) es h3 else .no).bind fun ys h2 => .ok (.ref h2.length) (h2 ++ [.lst ys])) Q E := by
                  have hw' := h5
                  simp only [if_true] at hw'
                  cases qt : de es4 eh5 with
                  | ok b h2 => rw [qt] at hw'; exact hw'
                  | er z h2 => rw [qt] at hw'; exact hw'
                  | no => rw [qt] at hw'; exact hw'
                refine iteT (he.bind0 rel5 e15 h5' fun ρ6 H6 y6 eh6 u6 e6 rel6 v6 h6 => ?_)
                have d6 := keepD e6 d5.1 d5.2
                have hacc6 := (((hacc.mono e3).mono e4).mono e5).mono e6
                split at h6
                · rename_i hl
                  have em : Ext G.K ρ1 ρ6 H1 (upd H6 Dl (.lst (us ++ [u6]))) := (e15.trans e6).mut hD
                  have eb : Ext0 G.K ρ6 ρ6 H6 (upd H6 Dl (.lst (us ++ [u6]))) := ext0_upd d6.2
                  refine ⟨us, d6.2, ?_, ρ6, eh6, acc ++ [y6], us ++ [u6], em, rel6.hr.ext eb fun a ha => upd_ne fun z => d6.1 (z ▸ ha), d6.1, upd_same, VRs.mono0 eb _ _ (hacc6.append (VRs.one v6)), h6⟩
                  rw [← hacc6.length]
                  exact Nat.lt_of_lt_of_le hl (by decide)
                · exact h6.elim
end
end EE
set_option Elab.async false
set_option linter.all false
set_option maxRecDepth 100000
set_option maxHeartbeats 1000000
namespace EE
open PySem PySem.Spec PyProof.Rows L2
def Res.noer {α : Type} (r : Res α) : Res α := match r with
  | .er _ _ => .no
  | z => z
@[simp] theorem noer_ok {α : Type} (v : α) (h : EH) : (Res.ok v h).noer = .ok v h := rfl
@[simp] theorem noer_no {α : Type} : (Res.no : Res α).noer = .no := rfl
def dDef (np N : Nat) (b : DS) : DL := fun args h => if args.length = np then (b (args.map some ++ List.replicate (N - args.length) none) h).bind fun f h1 => match f with
  | .nx _ => .ok .non h1
  | .rt v => .ok v h1
  | .bk _ => .no
  | .ct _ => .no
  else .no
def dCall (f : DL) (a : DA) : DE := fun es h => (a es h).bind fun xs h1 => (f xs h1).noer
def spD0 (G : Gx) (f : DL) : Sp := fun vs H Q _ => ∃ ρ xs eh, VRs G.K ρ H xs vs ∧ HR G ρ H eh ∧ wr G (VR G.K) ρ H (f xs eh) Q E0
theorem wr_noer {α β : Type} {G : Gx} {R : Rho → Hp → α → β → Prop} {ρ : Rho} {H : Hp} {r : Res α} {Q : β → Hp → Prop} {E E' : XK} (h : wr G R ρ H r.noer Q E) : wr G R ρ H r Q E' := by
  cases r with
  | ok v h' => exact h
  | er x h' => exact h.elim
  | no => exact h
theorem sr_start {K : Fg} {ρ : Rho} {H : Hp} {xs : List EV} {vs : List V} (N : List Str) (h : VRs K ρ H xs vs) : SR K ρ H (xs.map some ++ List.replicate (N.length - xs.length) none) (L2.start N vs) := by
  have hl := h.length
  refine ⟨by simp [L2.start, hl], fun i v hv => ?_⟩
  unfold L2.start
  by_cases hi : i < xs.length
  · rw [List.getElem?_append_left (by simpa using hi), List.getElem?_map] at hv
    obtain ⟨y, h1, h2⟩ := Option.map_eq_some_iff.mp hv
    cases h2
    obtain ⟨u, h3, h4⟩ := h.get h1
    refine ⟨u, ?_, h4⟩
    rw [List.getElem?_append_left (by rw [List.length_map, ← hl]; exact hi), List.getElem?_map, h3]
    rfl
  · rw [List.getElem?_append_right (by simpa using hi)] at hv
    rw [List.getElem?_replicate] at hv
    split at hv
    · cases hv
    · cases hv
section
variable {P : Program} {w : World} {K : Fg} {mg : Str → Option Value} {base : Heap} {ct : Nat → Addr × List Str}
theorem fn_d {x qual : Str} {st : Stmt} {f : Addr} {fd : FuncData} {N ps : List Str} {k : Nat} {d : DS} (F : Fun K x qual st f fd) (S : FnScope N ps (defScope st))
    (h : ∀ (cdv : Value) (A : Around) (outer : List Env) (s : Shared) (H : Hp) (E : XK), Room k (A.deeper (envOfC qual (defScope st) s.heap.objs.size f cdv)) → PSsd (cxOf CX0 P w K mg base N qual (defScope st) f cdv A outer s H E).nox ct E0 (defBody st) d) :
    FnOk P w K mg base CX0 (k + 1) f fd ps (spD0 ⟨K, ct⟩ (dDef ps.length N.length d)) := by
  refine F.ok S (fun vs H Q E hs => ?_) fun cdv A outer s H vs Q E hr hs => ?_
  · obtain ⟨ρ, xs, eh, h1, h2, h3⟩ := hs
    rw [← h1.length]
    unfold dDef at h3
    split at h3
    · assumption
    · exact h3.elim
  · obtain ⟨ρ, xs, eh, h1, h2, h3⟩ := hs
    obtain ⟨t, b1, b2⟩ := h cdv A outer s H E hr
    refine ⟨t, b1, b2 ρ (L2.start N vs) H _ eh _ ⟨sr_start N h1, h2⟩ ?_⟩
    unfold dDef at h3
    split at h3
    · cases q : d (xs.map some ++ List.replicate (N.length - xs.length) none) eh with
      | no => rw [q] at h3; exact h3
      | er z h' => rw [q] at h3; exact h3
      | ok fl h' =>
        rw [q] at h3
        intro ρ' H' vf e hr' rf
        cases fl with
        | nx es' =>
          cases vf with
          | nx σ' => exact h3 ρ' H' .non e hr' (vr_non.mpr rfl)
          | _ => exact rf.elim
        | rt v =>
          cases vf with
          | rt u => exact h3 ρ' H' u e hr' rf
          | _ => exact rf.elim
        | bk _ => exact h3.elim
        | ct _ => exact h3.elim
    · exact h3.elim
def FnD (P : Program) (w : World) (K : Fg) (mg : Str → Option Value) (base : Heap) (ct : Nat → Addr × List Str) (k : Nat) (x : Str) (fn : DL) : Prop := ∃ f fd ps, FnOk P w K mg base CX0 k f fd ps (spD0 ⟨K, ct⟩ fn) ∧ mg x = some (.ref f) ∧ PySem.W.keepIn K (.ref f) = true ∧ Binds K fd ps []
theorem FnD.mono {j k : Nat} {x : Str} {fn : DL} (F : FnD P w K mg base ct j x fn) (h : j ≤ k) : FnD P w K mg base ct k x fn := by
  obtain ⟨f, fd, ps, h1, h2⟩ := F
  exact ⟨f, fd, ps, h1.mono h, h2⟩
def Tx (K : Fg) (mg : Str → Option Value) (x : Str) (st : Stmt) (ps : List Str) : Prop := ∃ f fd, Fun K x x st f fd ∧ mg x = some (.ref f) ∧ Binds K fd ps []
theorem fnd_mk {x : Str} {st : Stmt} {N ps : List Str} {k : Nat} {d : DS} (T : Tx K mg x st ps) (S : FnScope N ps (defScope st))
    (h : ∀ (f : Addr) (cdv : Value) (A : Around) (outer : List Env) (s : Shared) (H : Hp) (E : XK), Room k (A.deeper (envOfC x (defScope st) s.heap.objs.size f cdv)) → PSsd (cxOf CX0 P w K mg base N x (defScope st) f cdv A outer s H E).nox ct E0 (defBody st) d) :
    FnD P w K mg base ct (k + 1) x (dDef ps.length N.length d) := by
  obtain ⟨f, fd, F, hm, hb⟩ := T
  exact ⟨f, fd, ps, fn_d F S (h f), hm, F.kp, hb⟩
theorem fnd_zero {x : Str} {st : Stmt} {ps : List Str} (T : Tx K mg x st ps) : FnD P w K mg base ct 0 x (fun _ _ => .no) := by
  obtain ⟨f, fd, F, hm, hb⟩ := T
  refine ⟨f, fd, ps, ⟨fun vs H Q E hs => ?_, fun A outer s H args us vs Q E _ _ _ _ hs => ?_⟩, hm, F.kp, hb⟩
  · obtain ⟨_, _, _, _, _, h3⟩ := hs
    exact h3.elim
  · obtain ⟨_, _, _, _, _, h3⟩ := hs
    exact h3.elim
end
section
variable {X : Cx} {ct : Nat → Addr × List Str} {E : XK} {e : Expr} {es : List Expr} {pos p : Pos} {dr : DA}
theorem xe_call {k : Nat} {x : Str} {fn : DL} (F : FnD X.prog X.w X.K X.mg X.base ct k x fn) (hr : Room k X.A) (hg : Gl X x) (ha : PAd X ct E (e :: es) dr) (hdb : (x == ("__debug__" : Str)) = false := by decide)
    (he : starEach (e :: es) X.env = (false, eval e X.env) :: starEach es X.env := by rfl) (hpl : (backTo pos (starEach es X.env)).any (·.1) = false := by rfl) : PEd X ct E (.Call (.Name x p) (e :: es) [] pos) (dCall fn dr) := by
  obtain ⟨f, fd, ps, h1, hm, hk, hb⟩ := F
  obtain ⟨ta, a1, a2⟩ := ha
  refine ⟨_, pe_call h1 hr hg hm hk hb .nil pass0 a1 hdb he hpl, fun ρ σ H es eh Q rel h => ?_⟩
  refine a2.bind rel h fun ρ1 H1 xs eh1 us e1 rel1 v1 h1 => ?_
  exact ⟨ρ1, xs, eh1, by rw [List.append_nil]; exact v1, rel1.hr, wr_noer h1⟩
def tE (G : Gx) (E : XK) (d : DE) : TE := fun σ H Q => ∃ ρ es eh, Rel G ρ σ H es eh ∧ wr G (VR G.K) ρ H (d es eh) Q E
def tT (G : Gx) (E : XK) (d : DT) : TT := fun σ H Q => ∃ ρ es eh, Rel G ρ σ H es eh ∧ wr G RB ρ H (d es eh) Q E
theorem PEd.can {d : DE} (h : PEd X ct E e d) : PE X e (tE ⟨X.K, ct⟩ E d) := by
  obtain ⟨t, h1, h2⟩ := h
  exact ⟨fun pins s σ H Q I ⟨ρ, es, eh, r, w⟩ => h1.run pins s σ H Q I (h2 ρ σ H es eh Q r w)⟩
theorem PTd.can {d : DT} (h : PTd X ct E e d) : PT X e (tT ⟨X.K, ct⟩ E d) := by
  obtain ⟨t, h1, h2⟩ := h
  exact ⟨fun pins s σ H Q I ⟨ρ, es, eh, r, w⟩ => h1.run pins s σ H Q I (h2 ρ σ H es eh Q r w)⟩
theorem snd_tE {G : Gx} {d : DE} : SndE G E (tE G E d) d := fun ρ σ H es eh Q r w => ⟨ρ, es, eh, r, w⟩
theorem snd_tT {G : Gx} {d : DT} : SndT G E (tT G E d) d := fun ρ σ H es eh Q r w => ⟨ρ, es, eh, r, w⟩
def dYes : DT := fun _ h => .ok true h
theorem snd_yes {G : Gx} : SndT G E tYes dYes := fun ρ σ H es eh Q rel h => h ρ H true (Ext.refl _ _ _) rel.hr rfl
variable {elt tg iter c : Expr} {scope : Scope} {di : DI} {dt : DT} {de : DE}
theorem xe_lc1 (i : Nat) {x : Str} {px : Pos} (hc : X.calm = true) (hN : X.N.Nodup) (hi : PId X ct E (.Name x px) iter di) (he : ∀ (s : Shared) (H : Hp) (C : Addr) (cl : List (Str × Addr)) (fp : List Addr), PEd (X.blk s H scope (compEnvC scope cl C X.env) fp) ct E elt de)
    (ok : blkC X.N X.env.scope scope [(x, i)] = true := by kernel_rfl)
    (hg : ∀ (s : Shared) (H : Hp) (C : Addr) (cl : List (Str × Addr)) (fp : List Addr), PG (X.blk s H scope (compEnvC scope cl C X.env) fp) (.Name x px) (gName i) := by exact fun _ _ _ _ _ => pg_name (by assumption) rfl (by first | exact Or.inl rfl | exact Or.inr rfl))
    (hs : ∀ x, foldedSetIterable iter X.env x = pure x := by intro _; rfl) :
    PEd X ct E (.ListComp elt [⟨.Name x px, iter, [], 0⟩] scope pos) (dLc di (dName i) dYes de [i]) := by
  obtain ⟨wi, i1, i2⟩ := hi
  exact ⟨_, pe_lc (own := [(x, i)]) hc hN i1 (blkOk_by ok) hg (fun _ _ _ _ _ => pts_nil) (fun s H C cl fp => (he s H C cl fp).can) hs, snd_lc i2 snd_gname (only_name (by simp)) snd_yes snd_tE⟩
theorem xe_lc1i (i : Nat) {x : Str} {px : Pos} (hc : X.calm = true) (hN : X.N.Nodup) (hi : PId X ct E (.Name x px) iter di) (ht : ∀ (s : Shared) (H : Hp) (C : Addr) (cl : List (Str × Addr)) (fp : List Addr), PTd (X.blk s H scope (compEnvC scope cl C X.env) fp) ct E c dt)
    (he : ∀ (s : Shared) (H : Hp) (C : Addr) (cl : List (Str × Addr)) (fp : List Addr), PEd (X.blk s H scope (compEnvC scope cl C X.env) fp) ct E elt de)
    (ok : blkC X.N X.env.scope scope [(x, i)] = true := by kernel_rfl)
    (hg : ∀ (s : Shared) (H : Hp) (C : Addr) (cl : List (Str × Addr)) (fp : List Addr), PG (X.blk s H scope (compEnvC scope cl C X.env) fp) (.Name x px) (gName i) := by exact fun _ _ _ _ _ => pg_name (by assumption) rfl (by first | exact Or.inl rfl | exact Or.inr rfl))
    (hs : ∀ x, foldedSetIterable iter X.env x = pure x := by intro _; rfl) :
    PEd X ct E (.ListComp elt [⟨.Name x px, iter, [c], 0⟩] scope pos) (dLc di (dName i) dt de [i]) := by
  obtain ⟨wi, i1, i2⟩ := hi
  exact ⟨_, pe_lc (own := [(x, i)]) hc hN i1 (blkOk_by ok) hg (fun s H C cl fp => pts_one (ht s H C cl fp).can) (fun s H C cl fp => (he s H C cl fp).can) hs, snd_lc i2 snd_gname (only_name (by simp)) snd_tT snd_tE⟩
theorem xs_setLc1 (j i : Nat) {x y : Str} {px py spos : Pos} (hc : X.calm = true) (hN : X.N.Nodup) (hi : PId X ct E (.Name x px) iter di) (he : ∀ (s : Shared) (H : Hp) (C : Addr) (cl : List (Str × Addr)) (fp : List Addr), PEd (X.blk s H scope (compEnvC scope cl C X.env) fp) ct E elt de)
    (hsw : swapsWith (.ListComp elt [⟨.Name x px, iter, [], 0⟩] scope pos) (some (.Name y py)) spos.line X.env = pure true)
    (ok : blkC X.N X.env.scope scope [(x, i)] = true := by kernel_rfl)
    (hg : ∀ (s : Shared) (H : Hp) (C : Addr) (cl : List (Str × Addr)) (fp : List Addr), PG (X.blk s H scope (compEnvC scope cl C X.env) fp) (.Name x px) (gName i) := by exact fun _ _ _ _ _ => pg_name (by assumption) rfl (by first | exact Or.inl rfl | exact Or.inr rfl))
    (hy : X.N[j]? = some y := by rfl) (hyl : X.env.scope.names.lookup y = some .local := by rfl) (hs : ∀ x, foldedSetIterable iter X.env x = pure x := by intro _; rfl) :
    PSd X ct E (.Assign [.Name y py] (.ListComp elt [⟨.Name x px, iter, [], 0⟩] scope pos) spos) (dAsg (dLc di (dName i) dYes de [i]) (dName j)) := by
  obtain ⟨wi, i1, i2⟩ := hi
  exact ⟨_, ps_setLc (own := [(x, i)]) hc hN hy hyl hsw i1 (blkOk_by ok) hg (fun _ _ _ _ _ => pts_nil) (fun s H C cl fp => (he s H C cl fp).can) hs, snd_asg (snd_lc i2 snd_gname (only_name (by simp)) snd_yes snd_tE) snd_gname⟩
theorem xs_setLc1i (j i : Nat) {x y : Str} {px py spos : Pos} (hc : X.calm = true) (hN : X.N.Nodup) (hi : PId X ct E (.Name x px) iter di) (ht : ∀ (s : Shared) (H : Hp) (C : Addr) (cl : List (Str × Addr)) (fp : List Addr), PTd (X.blk s H scope (compEnvC scope cl C X.env) fp) ct E c dt)
    (he : ∀ (s : Shared) (H : Hp) (C : Addr) (cl : List (Str × Addr)) (fp : List Addr), PEd (X.blk s H scope (compEnvC scope cl C X.env) fp) ct E elt de)
    (hsw : swapsWith (.ListComp elt [⟨.Name x px, iter, [c], 0⟩] scope pos) (some (.Name y py)) spos.line X.env = pure true)
    (ok : blkC X.N X.env.scope scope [(x, i)] = true := by kernel_rfl)
    (hg : ∀ (s : Shared) (H : Hp) (C : Addr) (cl : List (Str × Addr)) (fp : List Addr), PG (X.blk s H scope (compEnvC scope cl C X.env) fp) (.Name x px) (gName i) := by exact fun _ _ _ _ _ => pg_name (by assumption) rfl (by first | exact Or.inl rfl | exact Or.inr rfl))
    (hy : X.N[j]? = some y := by rfl) (hyl : X.env.scope.names.lookup y = some .local := by rfl) (hs : ∀ x, foldedSetIterable iter X.env x = pure x := by intro _; rfl) :
    PSd X ct E (.Assign [.Name y py] (.ListComp elt [⟨.Name x px, iter, [c], 0⟩] scope pos) spos) (dAsg (dLc di (dName i) dt de [i]) (dName j)) := by
  obtain ⟨wi, i1, i2⟩ := hi
  exact ⟨_, ps_setLc (own := [(x, i)]) hc hN hy hyl hsw i1 (blkOk_by ok) hg (fun s H C cl fp => pts_one (ht s H C cl fp).can) (fun s H C cl fp => (he s H C cl fp).can) hs, snd_asg (snd_lc i2 snd_gname (only_name (by simp)) snd_tT snd_tE) snd_gname⟩
end
def LawOk (fn : DL) : Prop := ∀ ns : List Int, ns.length ≤ 63 → ∃ h, fn [.ref 0] [.ro (ns.map EV.int)] = .ok (.bl true) h
theorem law_sp {K : Fg} {ct : Nat → Addr × List Str} {fn : DL} (hl : LawOk fn) {H : Hp} {a : Addr} {ns : List Int} (hn : ns.length ≤ 63) (hO : Only H) (hS : SqL K H a (ns.map V.int)) : spD0 ⟨K, ct⟩ fn [.ref a] H (fun v _ => v = .bl true) E0 := by
  obtain ⟨h', e⟩ := hl ns hn
  have hro : RoL K H a (ns.map V.int) := by
    rcases hS with (h | ⟨o, h⟩) | h
    · rcases hO a with z | ⟨o, xs, z⟩
      · rw [h] at z; cases z
      · rw [h] at z; cases z
    · exact .inl ⟨o, h⟩
    · exact .inr h
  refine ⟨[(false, a)], [.ref 0], [.ro (ns.map EV.int)], VRs.one (vr_ref.mpr ⟨a, rfl, rfl⟩), ⟨rfl, fun m n b h1 h2 => ?_, fun n o ho => ?_⟩, ?_⟩
  · cases m with
    | zero => simp at h1
    | succ m => simp at h1
  · cases n with
    | zero =>
      simp only [List.getElem?_cons_zero, Option.some.injEq] at ho
      subst ho
      exact ⟨a, rfl, ns.map V.int, hro, VRs.ints ns⟩
    | succ n => simp at ho
  · rw [e]
    intro ρ' H' u _ _ hv
    exact vr_bl.mp hv
end EE
set_option Elab.async false
set_option linter.all false
set_option maxRecDepth 100000
set_option maxHeartbeats 1000000
namespace EE
open PySem PySem.Spec PyProof.Rows L2
abbrev fAdd : D2 := d2or fAddI fCat
abbrev fMul : D2 := d2or fMulI fRep
abbrev fIn : D2 := fInL false
abbrev fNotIn : D2 := fInL true
section
variable {X : Cx} {ct : Nat → Addr × List Str} {E : XK}
theorem o_add : Opd X ct E (binaryOp .Add) fAdd := o_addI.or o_cat
theorem o_mul : Opd X ct E (binaryOp .Mult) fMul := o_mulI.or o_rep
theorem o_in (hu : X.A.units + 65 < cLine) : Opd X ct E (compareOp .In) fIn := o_inL hu
theorem o_notIn (hu : X.A.units + 65 < cLine) : Opd X ct E (compareOp .NotIn) fNotIn := o_notInL hu
theorem hu64 {k : Nat} {A : Around} (hr : Room k A) : A.units + 64 < cLine := by have := hr.un; omega
theorem hu65 {k : Nat} {A : Around} (hr : Room k A) : A.units + 65 < cLine := by have := hr.un; omega
end
end EE
set_option Elab.async false
set_option linter.all false
set_option maxRecDepth 100000
set_option maxHeartbeats 1000000
namespace EE
open PySem PySem.Spec PyProof.Rows L2
section
variable {κ : Type} [DecidableEq κ]
def dval (f : EV → Option κ) (kvs : List (EV × EV)) (k : κ) : Option EV := (kvs.find? fun p => decide (f p.1 = some k)).map (·.2)
def dput (f : EV → Option κ) (kvs : List (EV × EV)) (k : κ) (x v : EV) : List (EV × EV) :=
  if (kvs.any fun p => decide (f p.1 = some k)) = true then kvs.map (fun p => if f p.1 = some k then (p.1, v) else p) else kvs ++ [(x, v)]
def ddrop (f : EV → Option κ) (kvs : List (EV × EV)) (k : κ) : List (EV × EV) := kvs.filter fun p => decide (f p.1 ≠ some k)
variable {f : EV → Option κ} {R : EV → V → Prop}
theorem KR.len : ∀ {ps : List (EV × EV)} {l : List (κ × V)}, KR f R ps l → ps.length = l.length
  | [], _, h => by rw [h]; rfl
  | p :: ps, _, ⟨k, v, r, e, h1, h2, h3⟩ => by rw [e, List.length_cons, List.length_cons, KR.len h3]
theorem KR.val : ∀ {ps : List (EV × EV)} {l : List (κ × V)} (k : κ), KR f R ps l → FR R (dval f ps k) (valV l k)
  | [], _, k, h => by rw [h]; trivial
  | p :: ps, _, k, ⟨j, v, r, e, h1, h2, h3⟩ => by
    subst e
    by_cases hk : j = k
    · subst hk
      rw [valV_pos (p := (j, v)) rfl]
      unfold dval
      rw [List.find?_cons_of_pos (by simp [h1])]
      exact h2
    · rw [valV_neg (p := (j, v)) hk]
      unfold dval
      rw [List.find?_cons_of_neg (by simp [h1, hk])]
      exact KR.val k h3
theorem KR.any : ∀ {ps : List (EV × EV)} {l : List (κ × V)} (k : κ), KR f R ps l → (ps.any fun p => decide (f p.1 = some k)) = (l.any fun p => decide (p.1 = k))
  | [], _, k, h => by rw [h]; rfl
  | p :: ps, _, k, ⟨j, v, r, e, h1, h2, h3⟩ => by
    subst e
    rw [List.any_cons, List.any_cons, KR.any k h3, h1]
    simp only [Option.some.injEq]
theorem KR.upd {x : EV} {u : V} (k : κ) (hx : R x u) : ∀ {ps : List (EV × EV)} {l : List (κ × V)}, KR f R ps l → KR f R (ps.map fun p => if f p.1 = some k then (p.1, x) else p) (l.map fun p => if p.1 = k then (p.1, u) else p)
  | [], _, h => by rw [h]; rfl
  | p :: ps, _, ⟨j, v, r, e, h1, h2, h3⟩ => by
    subst e
    rw [List.map_cons, List.map_cons]
    by_cases hk : j = k
    · subst hk
      refine ⟨j, u, _, by rw [if_pos rfl], ?_, ?_, KR.upd j hx h3⟩
      · rw [if_pos h1]; exact h1
      · rw [if_pos h1]; exact hx
    · refine ⟨j, v, _, by rw [if_neg hk], ?_, ?_, KR.upd k hx h3⟩
      · rw [if_neg (by rw [h1]; simpa using hk)]; exact h1
      · rw [if_neg (by rw [h1]; simpa using hk)]; exact h2
theorem KR.snoc {y x : EV} {k : κ} {u : V} (hy : f y = some k) (hx : R x u) : ∀ {ps : List (EV × EV)} {l : List (κ × V)}, KR f R ps l → KR f R (ps ++ [(y, x)]) (l ++ [(k, u)])
  | [], _, h => by rw [h]; exact ⟨k, u, [], rfl, hy, hx, rfl⟩
  | p :: ps, _, ⟨j, v, r, e, h1, h2, h3⟩ => by
    subst e
    exact ⟨j, v, _, rfl, h1, h2, KR.snoc hy hx h3⟩
theorem KR.put {ps : List (EV × EV)} {l : List (κ × V)} {y x : EV} {k : κ} {u : V} (hy : f y = some k) (hx : R x u) (h : KR f R ps l) : KR f R (dput f ps k y x) (putK l k u) := by
  unfold dput putK
  rw [h.any k]
  split
  · exact h.upd k hx
  · exact h.snoc hy hx
theorem KR.drop (k : κ) : ∀ {ps : List (EV × EV)} {l : List (κ × V)}, KR f R ps l → KR f R (ddrop f ps k) (dropK l k)
  | [], _, h => by rw [h]; rfl
  | p :: ps, _, ⟨j, v, r, e, h1, h2, h3⟩ => by
    subst e
    unfold ddrop dropK
    by_cases hk : j = k
    · rw [List.filter_cons_of_neg (by simp [h1, hk]), List.filter_cons_of_neg (by simp [hk])]
      exact KR.drop k h3
    · rw [List.filter_cons_of_pos (by simp [h1, hk]), List.filter_cons_of_pos (by simp [hk])]
      exact ⟨j, v, _, rfl, h1, h2, KR.drop k h3⟩
theorem KR.at : ∀ {ps : List (EV × EV)} {l : List (κ × V)} {i : Nat} {p : EV × EV}, KR f R ps l → ps[i]? = some p → ∃ k v, l[i]? = some (k, v) ∧ f p.1 = some k ∧ R p.2 v
  | [], _, _, _, _, e => by simp at e
  | q :: ps, _, i, p, ⟨j, v, r, e, h1, h2, h3⟩, hp => by
    subst e
    cases i with
    | zero =>
      simp only [List.getElem?_cons_zero, Option.some.injEq] at hp
      subst hp
      exact ⟨j, v, rfl, h1, h2⟩
    | succ i =>
      simp only [List.getElem?_cons_succ] at hp ⊢
      exact KR.at h3 hp
end
theorem keyOf_vr {K : Fg} {ρ : Rho} {H : Hp} {x : EV} {k : Key} (h : keyOf x = some k) : VR K ρ H x (kV k) := by
  unfold keyOf at h
  split at h
  · cases h; exact vr_int.mpr rfl
  · cases h; exact vr_str.mpr rfl
  · cases h
theorem keyOf_eq {K : Fg} {ρ : Rho} {H : Hp} {x : EV} {k : Key} {y : V} (h : keyOf x = some k) (hx : VR K ρ H x y) : y = kV k := by
  unfold keyOf at h
  split at h
  · cases h; exact vr_int.mp hx
  · cases h; exact vr_str.mp hx
  · cases h
theorem keysOf_vrs {K : Fg} {ρ : Rho} {H : Hp} : ∀ {xs : List EV} {ks : List Key}, keysOf xs = some ks → VRs K ρ H xs (ks.map kV)
  | [], ks, h => by cases h; exact vrs_nil.mpr rfl
  | x :: xs, ks, h => by
    unfold keysOf at h
    split at h
    · rename_i k ks' e1 e2
      cases h
      exact vrs_cons.mpr ⟨kV k, ks'.map kV, rfl, keyOf_vr e1, keysOf_vrs e2⟩
    · cases h
theorem keysOf_eq {K : Fg} {ρ : Rho} {H : Hp} : ∀ {xs : List EV} {ks : List Key} {vs : List V}, keysOf xs = some ks → VRs K ρ H xs vs → vs = ks.map kV
  | [], ks, vs, h, hv => by cases h; exact vrs_nil.mp hv
  | x :: xs, ks, vs, h, hv => by
    unfold keysOf at h
    split at h
    · rename_i k ks' e1 e2
      cases h
      obtain ⟨v, r, rfl, h1, h2⟩ := vrs_cons.mp hv
      rw [keyOf_eq e1 h1, keysOf_eq e2 h2]
      rfl
    · cases h
theorem tkeyOf_vr {K : Fg} {ρ : Rho} {H : Hp} {x : EV} {k : List Key} {b : Addr} (h : tkeyOf x = some k) (hb : H b = some (.tup (k.map kV))) : VR K ρ H x (.ref b) := by
  unfold tkeyOf at h
  split at h
  · exact vr_tup.mpr ⟨b, k.map kV, rfl, hb, keysOf_vrs h⟩
  · cases h
theorem tkeyOf_eq {K : Fg} {ρ : Rho} {H : Hp} {x : EV} {k : List Key} {y : V} (h : tkeyOf x = some k) (hx : VR K ρ H x y) : ∃ b, y = .ref b ∧ H b = some (.tup (k.map kV)) := by
  unfold tkeyOf at h
  split at h
  · obtain ⟨a, vs, rfl, e2, e3⟩ := vr_tup.mp hx
    rw [keysOf_eq h e3] at e2
    exact ⟨a, rfl, e2⟩
  · cases h
def dgetE (t : Bool) (kvs : List (EV × EV)) (x : EV) : Option (Option EV) := match t with
  | false => (keyOf x).map (dval keyOf kvs)
  | true => (tkeyOf x).map (dval tkeyOf kvs)
def dputE (t : Bool) (kvs : List (EV × EV)) (x v : EV) : Option (List (EV × EV)) := match t with
  | false => (keyOf x).map fun k => dput keyOf kvs k x v
  | true => (tkeyOf x).map fun k => dput tkeyOf kvs k x v
def mdicAt (h : EH) (n : Nat) : Option (Bool × List (EV × EV)) := match h[n]? with
  | some (.dic t xs) => some (t, xs)
  | _ => none
section
variable {G : Gx} {ρ : Rho} {H : Hp} {eh : EH} {n : Nat}
theorem dic_of (hr : HR G ρ H eh) {t : Bool} {kvs : List (EV × EV)} (h : dicAt eh n = some (t, kvs)) : ∃ a u, adr ρ n = some a ∧ Rd H a u ∧ DR (VR G.K ρ H) t kvs u := by
  unfold dicAt at h
  split at h
  · rename_i t ys e
    cases h
    obtain ⟨a, h1, u, h2, h3⟩ := hr.obj n _ e
    exact ⟨a, u, adr_of h1, .inl h2, h3⟩
  · rename_i t ys e
    cases h
    obtain ⟨a, h1, f, u, h2, h3⟩ := hr.obj n _ e
    exact ⟨a, u, adr_of h1, .inr ⟨f, h2⟩, h3⟩
  · cases h
theorem mdic_of (hr : HR G ρ H eh) {t : Bool} {kvs : List (EV × EV)} (h : mdicAt eh n = some (t, kvs)) : ∃ a u, adr ρ n = some a ∧ H a = some u ∧ DR (VR G.K ρ H) t kvs u ∧ ρ[n]? = some (true, a) := by
  unfold mdicAt at h
  split at h
  · rename_i t ys e
    cases h
    obtain ⟨a, h1, u, h2, h3⟩ := hr.obj n _ e
    exact ⟨a, u, adr_of h1, h2, h3, h1⟩
  · cases h
theorem dget_of {t : Bool} {kvs : List (EV × EV)} {u : HO} {a : Addr} {x : EV} {y : V} {o : Option EV} (hu : Rd H a u) (hd : DR (VR G.K ρ H) t kvs u) (h : dgetE t kvs x = some o) (hx : VR G.K ρ H x y) : ∃ ov, DGet H a y ov ∧ FR (VR G.K ρ H) o ov := by
  cases t with
  | false =>
    obtain ⟨l, rfl, hk⟩ := hd
    obtain ⟨k, e1, e2⟩ := Option.map_eq_some_iff.mp h
    subst e2
    exact ⟨_, .inl ⟨l, k, hu, keyOf_eq e1 hx, rfl⟩, hk.val k⟩
  | true =>
    obtain ⟨l, rfl, hk⟩ := hd
    obtain ⟨k, e1, e2⟩ := Option.map_eq_some_iff.mp h
    subst e2
    obtain ⟨b, rfl, hb⟩ := tkeyOf_eq e1 hx
    exact ⟨_, .inr ⟨l, k, b, hu, rfl, hb, rfl⟩, hk.val k⟩
theorem put_dic (hr : HR G ρ H eh) {a : Addr} {u u' : HO} {t : Bool} {kvs kvs' : List (EV × EV)} (hn : ρ[n]? = some (true, a)) (ha : H a = some u) (hd : DR (VR G.K ρ H) t kvs u) (hd' : DR (VR G.K ρ H) t kvs' u') :
    Ext G.K ρ ρ H (upd H a u') ∧ HR G ρ (upd H a u') (eh.set n (.dic t kvs')) := by
  have e : Ext G.K ρ ρ H (upd H a u') := Ext.write _ hn ha hd.ntup hd.nfrz
  exact ⟨e, hr.write hn rfl e ⟨u', upd_same, hd'.mono fun x v => VR.mono e x v⟩⟩
theorem DR.len {R : EV → V → Prop} : ∀ {t : Bool} {kvs : List (EV × EV)} {l : List (Key × V)}, DR R t kvs (.dK l) → kvs.length = l.length
  | false, _, _, ⟨_, e, q⟩ => by cases e; exact q.len
  | true, _, _, ⟨_, e, q⟩ => by cases e
theorem dput_of (hr : HR G ρ H eh) {t : Bool} {kvs kvs' : List (EV × EV)} {x v : EV} {y w : V} (h : mdicAt eh n = some (t, kvs)) (hp : dputE t kvs x v = some kvs') (hl : kvs.length < 100000) (hx : VR G.K ρ H x y) (hv : VR G.K ρ H v w) :
    ∃ a H', adr ρ n = some a ∧ DPut H a y w H' ∧ Ext G.K ρ ρ H H' ∧ HR G ρ H' (eh.set n (.dic t kvs')) := by
  obtain ⟨a, u, h1, h2, h3, h4⟩ := mdic_of hr h
  have hz : kvs.length < sizeLine := Nat.lt_of_lt_of_le hl (by decide)
  cases t with
  | false =>
    obtain ⟨l, rfl, hk⟩ := h3
    obtain ⟨k, e1, e2⟩ := Option.map_eq_some_iff.mp hp
    subst e2
    obtain ⟨e, hr'⟩ := put_dic (t := false) (kvs := kvs) (kvs' := dput keyOf kvs k x v) (u' := .dK (putK l k w)) hr h4 h2 ⟨l, rfl, hk⟩ ⟨_, rfl, hk.put e1 hv⟩
    exact ⟨a, _, h1, .inl ⟨l, k, h2, keyOf_eq e1 hx, by rw [← hk.len]; exact hz, rfl⟩, e, hr'⟩
  | true =>
    obtain ⟨l, rfl, hk⟩ := h3
    obtain ⟨k, e1, e2⟩ := Option.map_eq_some_iff.mp hp
    subst e2
    obtain ⟨b, rfl, hb⟩ := tkeyOf_eq e1 hx
    obtain ⟨e, hr'⟩ := put_dic (t := true) (kvs := kvs) (kvs' := dput tkeyOf kvs k x v) (u' := .dT (putK l k w)) hr h4 h2 ⟨l, rfl, hk⟩ ⟨_, rfl, hk.put e1 hv⟩
    exact ⟨a, _, h1, .inr ⟨l, k, b, h2, rfl, hb, by rw [← hk.len]; exact hz, rfl⟩, e, hr'⟩
end
def fDGet : D2 := fun x y h => match x with
  | .ref n => match dicAt h n with
    | some (t, kvs) => match dgetE t kvs y with
      | some (some v) => .ok v h
      | _ => .no
    | none => .no
  | _ => .no
def fDIn (neg : Bool) : D2 := fun x y h => match y with
  | .ref n => match dicAt h n with
    | some (t, kvs) => match dgetE t kvs x with
      | some o => .ok (.bl (neg ^^ o.isSome)) h
      | _ => .no
    | none => .no
  | _ => .no
def sDic : DSet := fun o i x h => match o with
  | .ref n => match mdicAt h n with
    | some (t, kvs) => match dputE t kvs i x with
      | some kvs' => if kvs.length < 100000 then .ok () (h.set n (.dic t kvs')) else .no
      | none => .no
    | none => .no
  | _ => .no
theorem FR.isSome {R : EV → V → Prop} : ∀ {x : Option EV} {v : Option V}, FR R x v → x.isSome = v.isSome
  | some _, some _, _ => rfl
  | none, none, _ => rfl
  | some _, none, q => q.elim
  | none, some _, q => q.elim
theorem dOp_or (f g : D2) (a b : DE) (es : ES) (h : EH) : dOp (d2or f g) a b es h = dOp f a b es h ∨ dOp (d2or f g) a b es h = dOp g a b es h := by
  unfold dOp
  cases a es h with
  | ok x h1 =>
    simp only [bind_ok]
    cases b es h1 with
    | ok y h2 =>
      simp only [bind_ok]
      unfold d2or
      cases q : f x y h2 with
      | no => right; rfl
      | ok v h' => left; rfl
      | er x h' => left; rfl
    | er x h2 => left; rfl
    | no => left; rfl
  | er x h1 => left; rfl
  | no => left; rfl
section
variable {X : Cx} {ct : Nat → Addr × List Str} {E : XK} {G : Gx} {a b : Expr} {da db : DE} {pos : Pos}
theorem xe_alt {e : Expr} {d d' d2 : DE} (h : PEd X ct E e d) (h' : PEd X ct E e d') (hd : ∀ es h, d2 es h = d es h ∨ d2 es h = d' es h) : PEd X ct E e d2 := by
  obtain ⟨t, a1, a2⟩ := h
  obtain ⟨t', b1, b2⟩ := h'
  refine ⟨fun σ H Q => t σ H Q ∨ t' σ H Q, ⟨fun pins s σ H Q I q => ?_⟩, fun ρ σ H es eh Q rel hw => ?_⟩
  · rcases q with q | q
    · exact a1.run pins s σ H Q I q
    · exact b1.run pins s σ H Q I q
  · rcases hd es eh with q | q
    · rw [q] at hw
      exact .inl (a2 ρ σ H es eh Q rel hw)
    · rw [q] at hw
      exact .inr (b2 ρ σ H es eh Q rel hw)
theorem xe_dget (hu : X.A.units + 1 < cLine) (ha : PEd X ct E a da) (hb : PEd X ct E b db) (hs : NoSl b := by exact fun _ _ => rfl) : PEd X ct E (.Subscript a b pos) (dOp fDGet da db) := by
  obtain ⟨t, a1, a2⟩ := ha
  obtain ⟨u, b1, b2⟩ := hb
  refine ⟨_, pe_dget hu a1 b1 hs, fun ρ σ H es eh Q rel h => ?_⟩
  refine a2.bind rel h fun ρ1 H1 x eh1 v e1 rel1 v1 h1 => ?_
  refine b2.bind rel1 h1 fun ρ2 H2 y eh2 w e2 rel2 v2 h2 => ?_
  unfold fDGet at h2
  split at h2
  · rename_i n
    split at h2
    · rename_i t kvs e3
      split at h2
      · rename_i z e4
        obtain ⟨p, uo, g1, g2, g3⟩ := dic_of rel2.hr e3
        obtain ⟨p', q1, rfl⟩ := vr_ref.mp (v1.mono e2)
        rw [g1] at q1; cases q1
        obtain ⟨ov, k1, k2⟩ := dget_of g2 g3 e4 v2
        cases ov with
        | none => exact k2.elim
        | some zz => exact ⟨p, zz, rfl, k1, h2 ρ2 H2 _ (Ext.refl _ _ _) rel2.hr k2⟩
      · exact h2.elim
    · exact h2.elim
  · exact h2.elim
theorem xe_ixd {f : D2} (hu : X.A.units + 1 < cLine) (hf : Ixd X ct E f) (ha : PEd X ct E a da) (hb : PEd X ct E b db) (hs : PlainIx b := by exact fun _ _ => rfl) (hs2 : NoSl b := by exact fun _ _ => rfl) : PEd X ct E (.Subscript a b pos) (dOp (d2or f fDGet) da db) :=
  xe_alt (xe_ix hf ha hb hs) (xe_dget hu ha hb hs2) fun es h => dOp_or _ _ _ _ es h
theorem o_dIn (hu : X.A.units + 1 < cLine) : Opd X ct E (compareOp .In) (fDIn false) := ⟨fun y x H Q => ∃ a o, x = .ref a ∧ DGet H a y o ∧ Q (.bl o.isSome) H, by
  rintro pins s σ H y x v u Q I ry rx ⟨a, o, rfl, g, q⟩
  obtain rfl : u = Value.ref a := rx
  exact d_in hu I g ry fun s3 I3 => ⟨.bl o.isSome, H, I3, rfl, q⟩, fun ρ H eh x y v w Q hr hx hy h => by
  unfold fDIn at h
  split at h
  · rename_i n
    split at h
    · rename_i t kvs e3
      split at h
      · rename_i o e4
        obtain ⟨p, uo, g1, g2, g3⟩ := dic_of hr e3
        obtain ⟨p', q1, rfl⟩ := vr_ref.mp hy
        rw [g1] at q1; cases q1
        obtain ⟨ov, k1, k2⟩ := dget_of g2 g3 e4 hx
        exact ⟨p, ov, rfl, k1, h ρ H _ (Ext.refl _ _ _) hr (vr_bl.mpr (by rw [k2.isSome]; simp))⟩
      · exact h.elim
    · exact h.elim
  · exact h.elim⟩
theorem o_dNotIn (hu : X.A.units + 1 < cLine) : Opd X ct E (compareOp .NotIn) (fDIn true) := ⟨fun y x H Q => ∃ a o, x = .ref a ∧ DGet H a y o ∧ Q (.bl (!o.isSome)) H, by
  rintro pins s σ H y x v u Q I ry rx ⟨a, o, rfl, g, q⟩
  obtain rfl : u = Value.ref a := rx
  exact d_notIn hu I g ry fun s3 I3 => ⟨.bl (!o.isSome), H, I3, rfl, q⟩, fun ρ H eh x y v w Q hr hx hy h => by
  unfold fDIn at h
  split at h
  · rename_i n
    split at h
    · rename_i t kvs e3
      split at h
      · rename_i o e4
        obtain ⟨p, uo, g1, g2, g3⟩ := dic_of hr e3
        obtain ⟨p', q1, rfl⟩ := vr_ref.mp hy
        rw [g1] at q1; cases q1
        obtain ⟨ov, k1, k2⟩ := dget_of g2 g3 e4 hx
        exact ⟨p, ov, rfl, k1, h ρ H _ (Ext.refl _ _ _) hr (vr_bl.mpr (by rw [k2.isSome]; simp))⟩
      · exact h.elim
    · exact h.elim
  · exact h.elim⟩
theorem set_dic (hu : X.A.units + 1 < cLine) : PSetd X ct E sDic := ⟨_, set_dict hu, fun ρ H eh o i x a b c Q hr ho hi hx h => by
  unfold sDic at h
  split at h
  · rename_i n
    split at h
    · rename_i t kvs e3
      split at h
      · rename_i kvs' e4
        split at h
        · rename_i hl
          obtain ⟨p, H', g1, g2, g3, g4⟩ := dput_of hr e3 e4 hl hi hx
          obtain ⟨p', q1, rfl⟩ := vr_ref.mp ho
          rw [g1] at q1; cases q1
          exact ⟨p, H', rfl, g2, h ρ H' () g3 g4 trivial⟩
        · exact h.elim
      · exact h.elim
    · exact h.elim
  · exact h.elim⟩
def dNewD (t : Bool) : DE := fun _ h => .ok (.ref h.length) (h ++ [.dic t []])
theorem xe_dnew (t : Bool) : PEd X ct E (.Dict [] [] pos) (dNewD t) := by
  have key : ∀ (u : HO), DR (VR X.K [] fun _ => none) t [] u → (∀ ρ H, DR (VR X.K ρ H) t [] u) → ∀ (ρ : Rho) (σ : L2.St) (H : Hp) (es : ES) (eh : EH) (Q : VK), Rel ⟨X.K, ct⟩ ρ σ H es eh → wr ⟨X.K, ct⟩ (VR X.K) ρ H (dNewD t es eh) Q E → ∀ p, H p = none → Q (.ref p) (upd H p u) := fun u _ hu ρ σ H es eh Q rel h p hp => by
    exact h (ρ ++ [(true, p)]) _ _ (Ext.alloc _ hp) (rel.hr.alloc (o := .dic t []) hp rfl ⟨u, upd_same, hu _ _⟩) (vr_ref.mpr ⟨p, last_get rel.hr.len, rfl⟩)
  cases t with
  | false => exact ⟨_, pe_dnewK, key (.dK []) ⟨[], rfl, rfl⟩ fun _ _ => ⟨[], rfl, rfl⟩⟩
  | true => exact ⟨_, pe_dnewT, key (.dT []) ⟨[], rfl, rfl⟩ fun _ _ => ⟨[], rfl, rfl⟩⟩
def mPopT : EV → DL := fun x xs h => match x, xs with
  | .ref n, [y, z] => match mdicAt h n, tkeyOf y with
    | some (true, kvs), some k => match dval tkeyOf kvs k with
      | some v => .ok v (h.set n (.dic true (ddrop tkeyOf kvs k)))
      | none => .ok z h
    | _, _ => .no
  | _, _ => .no
theorem m_popT (hu : X.A.units + 1 < cLine) : Mtd X ct E "dict.pop" mPopT := ⟨_, L2.DX.mt_popT hu, fun ρ H eh x a xs as Q hr hx hxs h => by
  unfold mPopT at h
  split at h
  · rename_i n y z
    split at h
    · rename_i kvs k e1 e2
      obtain ⟨p, u, g1, g2, g3, g4⟩ := mdic_of hr e1
      obtain ⟨l, rfl, hk⟩ := g3
      obtain ⟨p', q1, rfl⟩ := vr_ref.mp hx
      rw [g1] at q1; cases q1
      obtain ⟨v, w, rfl, hv, hw⟩ := vrs_two hxs
      obtain ⟨b, rfl, hb⟩ := tkeyOf_eq e2 hv
      have hval := hk.val k
      refine ⟨p, l, k, b, w, rfl, rfl, g2, hb, fun v0 hv0 => ?_, fun hn => ?_⟩
      · rw [hv0] at hval
        split at h
        · rename_i ve e3
          rw [e3] at hval
          obtain ⟨e, hr'⟩ := put_dic (t := true) (kvs := kvs) (kvs' := ddrop tkeyOf kvs k) (u' := .dT (dropK l k)) hr g4 g2 ⟨l, rfl, hk⟩ ⟨_, rfl, hk.drop k⟩
          exact h ρ _ _ e hr' (VR.mono e _ _ hval)
        · rename_i e3
          rw [e3] at hval
          exact hval.elim
      · rw [hn] at hval
        split at h
        · rename_i ve e3
          rw [e3] at hval
          exact hval.elim
        · exact h ρ _ _ (Ext.refl _ _ _) hr hw
    · exact h.elim
  · exact h.elim⟩
def dBMD (f : EV → DL) (o : DE) (a : DA) : DE := fun es h => (o es h).bind fun x h1 => match x with
  | .ref n => match mdicAt h1 n with
    | some _ => (a es h1).bind fun xs h2 => f x xs h2
    | none => .no
  | _ => .no
theorem DR.ty {R : EV → V → Prop} {H : Hp} {a : Addr} (K : Fg) : ∀ {t : Bool} {kvs : List (EV × EV)} {u : HO}, H a = some u → DR R t kvs u → tyV K "dict" (.ref a) H
  | false, _, _, e, ⟨l, q, _⟩ => by subst q; exact .inr (.inr (.inl ⟨rfl, .inl ⟨_, e⟩⟩))
  | true, _, _, e, ⟨l, q, _⟩ => by subst q; exact .inr (.inr (.inl ⟨rfl, .inr ⟨_, e⟩⟩))
theorem snd_bmD {r : V → List V → Hp → VK → Prop} {f : EV → DL} {to : TE} {ta : TA} {o : DE} {a : DA} (hr : SndM G E r f) (ho : SndE G E to o) (ha : SndA G E ta a) : SndE G E (tBM G.K "dict" r to ta) (dBMD f o a) := fun ρ σ H es eh Q rel h => by
  refine ho.bind rel h fun ρ1 H1 x eh1 u e1 rel1 v1 h1 => ?_
  cases x with
  | ref n =>
    simp only at h1
    split at h1
    · rename_i tk e2
      obtain ⟨a1, vs, g1, g2, g3, _⟩ := mdic_of rel1.hr e2
      obtain ⟨a', q1, rfl⟩ := vr_ref.mp v1
      rw [g1] at q1; cases q1
      refine ⟨g3.ty _ g2, ha.bind rel1 h1 fun ρ2 H2 xs eh2 us e2 rel2 v2 h2 => ?_⟩
      exact hr ρ2 H2 eh2 _ _ xs us Q rel2.hr (v1.mono e2) v2 h2
    · exact h1.elim
  | _ => exact h1.elim
variable {e e' : Expr} {dr : DA}
theorem xe_popT {apos cpos : Pos} (hu : X.A.units + 1 < cLine) (ho : PEd X ct E a da) (ha : PAd X ct E [e, e'] dr)
    (hbase : attributeBase a "pop" X.env (eval a X.env) = eval a X.env := by rfl)
    (hfew : ((backTo cpos (starEach [e, e'] X.env)).all (fun x => !x.1) && (backToKw cpos (keywordEach [] X.env)).all (fun x => x.1.isSome)
      && decide ([e, e'].length + ([] : List Keyword).length + (if ([] : List Keyword).isEmpty then 0 else 1) < 30)) = true := by rfl)
    (hline : (apos.endLine == cpos.line) = true := by rfl) (hs : starEach [e, e'] X.env = (false, eval e X.env) :: starEach [e'] X.env := by rfl) (hplain : (backTo cpos (starEach [e'] X.env)).any (·.1) = false := by rfl) :
    PEd X ct E (.Call (.Attribute a "pop" apos) [e, e'] [] cpos) (dBMD mPopT da dr) := by
  obtain ⟨r, m1, m2⟩ := m_popT (X := X) (ct := ct) (E := E) hu
  obtain ⟨t, a1, a2⟩ := ho
  obtain ⟨u, b1, b2⟩ := ha
  exact ⟨_, pe_bm PySem.F.plainAttrs_dict PySem.F.slot_dict_pop PySem.F.type_dict_pop m1 a1 b1 hbase hfew hline hs hplain, snd_bmD m2 a2 b2⟩
end
end EE
set_option Elab.async false
set_option linter.all false
set_option maxRecDepth 100000
set_option maxHeartbeats 1000000
namespace EE
open PySem PySem.Spec PyProof.Rows L2
structure Cd (K : Fg) (cn : Addr × List Str) : Prop where
  cl : Cls K cn.1
  no : ∀ m ∈ cn.2, NoAttr K cn.1 m
  nd : cn.2.Nodup
  few : cn.2.length < 100
theorem putF_len {f : Str} {y : V} : ∀ {l : List (Str × V)} {v : V}, l.lookup f = some v → (putF f y l).length = l.length
  | [], _, h => by simp at h
  | (g, x) :: r, v, h => by
    unfold putF
    by_cases e : g = f
    · rw [if_pos e, List.length_cons, List.length_cons]
    · rw [if_neg e, List.length_cons, List.length_cons, putF_len (v := v)]
      rw [List.lookup_cons] at h
      have : (f == g) = false := by simpa using fun z => e z.symm
      rw [this] at h
      exact h
def cnt (fs : List (Option EV)) : Nat := (fs.filter fun z => z.isSome).length
theorem cnt_le (fs : List (Option EV)) : cnt fs ≤ fs.length := List.length_filter_le _ _
theorem cnt_set : ∀ {fs : List (Option EV)} {i : Nat} (v : EV), i < fs.length → cnt fs ≤ cnt (fs.set i (some v)) ∧ (fs[i]? = some none → cnt fs + 1 ≤ cnt (fs.set i (some v)))
  | [], i, v, h => by simp at h
  | x :: fs, 0, v, h => by
    unfold cnt
    cases x with
    | none => simp [List.filter_cons]
    | some x => simp [List.filter_cons]
  | x :: fs, i + 1, v, h => by
    have ih := cnt_set (fs := fs) (i := i) v (by simpa using h)
    unfold cnt at ih ⊢
    simp only [List.set_cons_succ, List.getElem?_cons_succ]
    cases x with
    | none => rw [List.filter_cons_of_neg (by simp), List.filter_cons_of_neg (by simp)]; exact ih
    | some x =>
      rw [List.filter_cons_of_pos (by rfl), List.filter_cons_of_pos (by rfl), List.length_cons, List.length_cons]
      exact ⟨by omega, fun z => by have := ih.2 z; omega⟩
theorem nodup_at {l : List Str} (h : l.Nodup) {i j : Nat} {m : Str} (hi : l[i]? = some m) (hj : l[j]? = some m) : i = j := by
  obtain ⟨i1, i2⟩ := List.getElem?_eq_some_iff.mp hi
  obtain ⟨j1, j2⟩ := List.getElem?_eq_some_iff.mp hj
  have key := List.pairwise_iff_getElem.mp h
  rcases Nat.lt_trichotomy i j with z | z | z
  · exact absurd (i2.trans j2.symm) (key i j i1 j1 z)
  · exact z
  · exact absurd (j2.trans i2.symm) (key j i j1 i1 z)
def objAt (c : Nat) (h : EH) (n : Nat) : Option (List (Option EV)) := match h[n]? with
  | some (.obj c' fs) => if c' = c then some fs else none
  | _ => none
section
variable {G : Gx} {ρ : Rho} {H : Hp} {eh : EH} {n c : Nat}
theorem obj_of (hr : HR G ρ H eh) {fs : List (Option EV)} (h : objAt c eh n = some fs) : ∃ a dx l, adr ρ n = some a ∧ ρ[n]? = some (true, a) ∧ H a = some (.ins (G.ct c).1 dx l) ∧ fs.length = (G.ct c).2.length ∧ l.length ≤ cnt fs ∧
    (∀ (i : Nat) (x : Option EV), fs[i]? = some x → ∀ m, (G.ct c).2[i]? = some m → FR (VR G.K ρ H) x (l.lookup m)) ∧ ∀ m, m ∉ (G.ct c).2 → l.lookup m = none := by
  unfold objAt at h
  split at h
  · rename_i c' ys e
    split at h
    · rename_i hc
      cases h
      subst hc
      obtain ⟨a, h1, dx, l, h2, h3, h4, h5, h6⟩ := hr.obj n _ e
      exact ⟨a, dx, l, adr_of h1, h1, h2, h3, h4, h5, h6⟩
    · cases h
  · cases h
theorem put_fld (hr : HR G ρ H eh) (hc : Cd G.K (G.ct c)) {fs : List (Option EV)} {i : Nat} {f : Str} {v : EV} {y : V} {a dx : Addr} {l : List (Str × V)} (hi : (G.ct c).2[i]? = some f) (hn : ρ[n]? = some (true, a)) (ha : H a = some (.ins (G.ct c).1 dx l)) (h3 : fs.length = (G.ct c).2.length)
    (h4 : l.length ≤ cnt fs) (h5 : ∀ (i : Nat) (x : Option EV), fs[i]? = some x → ∀ m, (G.ct c).2[i]? = some m → FR (VR G.K ρ H) x (l.lookup m)) (h6 : ∀ m, m ∉ (G.ct c).2 → l.lookup m = none) (hv : VR G.K ρ H v y) :
    Ext G.K ρ ρ H (upd H a (.ins (G.ct c).1 dx (putF f y l))) ∧ HR G ρ (upd H a (.ins (G.ct c).1 dx (putF f y l))) (eh.set n (.obj c (fs.set i (some v)))) := by
  have e : Ext G.K ρ ρ H (upd H a (.ins (G.ct c).1 dx (putF f y l))) := Ext.write _ hn ha (fun _ z => by cases z) fun _ _ z => by cases z
  have hil : i < fs.length := by rw [h3]; exact (List.getElem?_eq_some_iff.mp hi).1
  refine ⟨e, hr.write hn rfl e ⟨dx, _, upd_same, by rw [List.length_set]; exact h3, ?_, fun j x hx m hm => ?_, fun m hm => ?_⟩⟩
  · show _ ≤ cnt _
    obtain ⟨c1, c2⟩ := cnt_set (fs := fs) (i := i) v hil
    have hf := h5 i fs[i] (List.getElem?_eq_getElem hil) f hi
    cases q : fs[i] with
    | none =>
      have := c2 (by rw [List.getElem?_eq_getElem hil, q])
      have := length_putF f y l
      omega
    | some z =>
      rw [q] at hf
      cases w : l.lookup f with
      | none => rw [w] at hf; exact hf.elim
      | some z' => rw [putF_len w]; omega
  · rw [lookup_putF]
    by_cases hj : i = j
    · subst hj
      rw [List.getElem?_set_self hil] at hx
      cases hx
      rw [hi] at hm
      cases hm
      rw [if_pos rfl]
      exact VR.mono e _ _ hv
    · rw [List.getElem?_set_ne hj] at hx
      have hmf : m ≠ f := fun z => hj (by
        subst z
        exact nodup_at hc.nd hi hm)
      rw [if_neg hmf]
      exact (h5 j x hx m hm).mono fun x v => VR.mono e x v
  · rw [lookup_putF, if_neg (show ¬ m = f from fun z => hm (by rw [z]; exact List.mem_of_getElem? hi))]
    exact h6 m hm
end
def dFld (c i : Nat) (o : DE) : DE := fun es h => (o es h).bind fun x h1 => match x with
  | .ref n => match objAt c h1 n with
    | some fs => match fs[i]? with
      | some (some v) => .ok v h1
      | _ => .no
    | none => .no
  | _ => .no
def dSetF (c i : Nat) (o v : DE) : DS := fun es h => (v es h).bind fun y h1 => (o es h1).bind fun x h2 => match x with
  | .ref n => match objAt c h2 n with
    | some fs => .ok (.nx es) (h2.set n (.obj c (fs.set i (some y))))
    | none => .no
  | _ => .no
def dAugF (c i : Nat) (f : D2) (o v : DE) : DS := fun es h => (o es h).bind fun x h1 => match x with
  | .ref n => match objAt c h1 n with
    | some fs => match fs[i]? with
      | some (some w) => (v es h1).bind fun y h2 => (f w y h2).bind fun z h3 => match objAt c h3 n with
        | some fs' => .ok (.nx es) (h3.set n (.obj c (fs'.set i (some z))))
        | none => .no
      | _ => .no
    | none => .no
  | _ => .no
def dMeth (c : Nat) (fn : DL) (o : DE) (a : DA) : DE := fun es h => (o es h).bind fun x h1 => match x with
  | .ref n => match objAt c h1 n with
    | some _ => (a es h1).bind fun xs h2 => (fn (x :: xs) h2).noer
    | none => .no
  | _ => .no
def dMake (c nf : Nat) (fn : DL) (a : DA) : DE := fun es h => (a es h).bind fun xs h1 => (fn (.ref h1.length :: xs) (h1 ++ [.obj c (List.replicate nf none)])).noer.bind fun v h2 => match v with
  | .non => .ok (.ref h1.length) h2
  | _ => .no
section
variable {X : Cx} {ct : Nat → Addr × List Str} {E : XK} {e o : Expr} {es : List Expr} {pos p : Pos} {d dv : DE} {dr : DA} {f : Str}
theorem xe_fld (c i : Nat) (hc : Cd X.K (ct c)) (hi : (ct c).2[i]? = some f) (ho : PEd X ct E o d) (hb : attributeBase o f X.env (eval o X.env) = eval o X.env := by rfl) : PEd X ct E (.Attribute o f pos) (dFld c i d) := by
  obtain ⟨t, h1, h2⟩ := ho
  refine ⟨_, pe_fld h1 hb, fun ρ σ H es eh Q rel h => ?_⟩
  refine h2.bind rel h fun ρ1 H1 x eh1 u e1 rel1 v1 h1 => ?_
  split at h1
  · rename_i n
    split at h1
    · rename_i fs e2
      split at h1
      · rename_i v e3
        obtain ⟨a, dx, l, g1, g2, g3, g4, g5, g6, g7⟩ := obj_of rel1.hr e2
        obtain ⟨a', q1, rfl⟩ := vr_ref.mp v1
        rw [g1] at q1; cases q1
        have k := g6 i _ e3 f hi
        cases w : l.lookup f with
        | none => rw [w] at k; exact k.elim
        | some z =>
          rw [w] at k
          exact ⟨a, _, dx, l, z, rfl, g3, hc.cl, hc.no f (List.mem_of_getElem? hi), w, h1 ρ1 H1 _ (Ext.refl _ _ _) rel1.hr k⟩
      · exact h1.elim
    · exact h1.elim
  · exact h1.elim
theorem xs_fld {pos' : Pos} (c i : Nat) (hc : Cd X.K (ct c)) (hi : (ct c).2[i]? = some f) (ho : PEd X ct E o d) (hv : PEd X ct E e dv) (hs : swapsWith e (some (.Attribute o f pos')) pos.line X.env = pure false := by rfl) : PSd X ct E (.Assign [.Attribute o f pos'] e pos) (dSetF c i d dv) := by
  obtain ⟨t, h1, h2⟩ := ho
  obtain ⟨u, k1, k2⟩ := hv
  refine ⟨_, ps_fld h1 k1 hs, fun ρ σ H es eh D rel h => ?_⟩
  refine k2.bind rel h fun ρ1 H1 y eh1 w e1 rel1 v1 h1 => ?_
  refine h2.bind rel1 h1 fun ρ2 H2 x eh2 u e2 rel2 v2 h2 => ?_
  split at h2
  · rename_i n
    split at h2
    · rename_i fs e3
      obtain ⟨a, dx, l, g1, g2, g3, g4, g5, g6, g7⟩ := obj_of rel2.hr e3
      obtain ⟨a', q1, rfl⟩ := vr_ref.mp v2
      rw [g1] at q1; cases q1
      obtain ⟨e4, hr4⟩ := put_fld (v := y) rel2.hr hc hi g2 g3 g4 g5 g6 g7 (v1.mono e2)
      refine ⟨a, _, dx, l, rfl, g3, hc.cl, hc.no f (List.mem_of_getElem? hi), ?_, h2 ρ2 _ (.nx σ) e4 hr4 (rel2.sl.mono e4)⟩
      have := cnt_le fs
      have := hc.few
      have g4' : fs.length = (ct c).2.length := g4
      omega
    · exact h2.elim
  · exact h2.elim
theorem xs_fldaug {pos' : Pos} {op : Operator} {f2 : D2} (c i : Nat) (hc : Cd X.K (ct c)) (hi : (ct c).2[i]? = some f) (hop : Opd X ct E (inplaceOp op) f2) (ho : PEd X ct E o d) (hv : PEd X ct E e dv) : PSd X ct E (.AugAssign (.Attribute o f pos') op e pos) (dAugF c i f2 d dv) := by
  obtain ⟨t, h1, h2⟩ := ho
  obtain ⟨u, k1, k2⟩ := hv
  obtain ⟨r, r1, r2⟩ := hop
  refine ⟨_, ps_fldaug h1 k1 r1, fun ρ σ H es eh D rel h => ?_⟩
  refine h2.bind rel h fun ρ1 H1 x eh1 w e1 rel1 v1 h1 => ?_
  split at h1
  · rename_i n
    split at h1
    · rename_i fs e3
      split at h1
      · rename_i wv e4
        obtain ⟨a, dx, l, g1, g2, g3, g4, g5, g6, g7⟩ := obj_of rel1.hr e3
        obtain ⟨a', q1, rfl⟩ := vr_ref.mp v1
        rw [g1] at q1; cases q1
        have k := g6 i _ e4 f hi
        cases wl : l.lookup f with
        | none => rw [wl] at k; exact k.elim
        | some z =>
          rw [wl] at k
          refine ⟨a, _, dx, l, z, rfl, g3, hc.cl, hc.no f (List.mem_of_getElem? hi), wl, ?_⟩
          refine k2.bind rel1 h1 fun ρ2 H2 y eh2 yv e2 rel2 v2 h2 => ?_
          refine Snd2.bind r2 rel2.hr (VR.mono e2 _ _ k) v2 h2 fun ρ3 H3 zz eh3 zv e5 hr3 v3 h3 => ?_
          split at h3
          · rename_i fs' e6
            obtain ⟨a2, dx2, l2, j1, j2, j3, j4, j5, j6, j7⟩ := obj_of hr3 e6
            have ea : a2 = a := by
              have := (e2.trans e5).toExt0.get g1
              rw [j1] at this
              exact Option.some.inj this
            subst ea
            obtain ⟨e7, hr7⟩ := put_fld (v := zz) hr3 hc hi j2 j3 j4 j5 j6 j7 v3
            refine ⟨dx2, l2, j3, ?_, h3 ρ3 _ (.nx σ) e7 hr7 ((rel2.sl.mono e5).mono e7)⟩
            have := cnt_le fs'
            have := hc.few
            have j4' : fs'.length = (ct c).2.length := j4
            omega
          · exact h3.elim
      · exact h1.elim
    · exact h1.elim
  · exact h1.elim
end
section
variable {P : Program} {w : World} {K : PySem.W.Frag} {mg : Str → Option Value} {base : Heap} {ct : Nat → Addr × List Str}
def MethD (P : Program) (w : World) (K : Fg) (mg : Str → Option Value) (base : Heap) (ct : Nat → Addr × List Str) (k c : Nat) (m : Str) (fn : DL) : Prop := ∃ f fd ps, FnOk P w K mg base CX0 k f fd ps (spD0 ⟨K, ct⟩ fn) ∧ Meth K (ct c).1 m f ∧ Binds K fd ps []
def InitD (P : Program) (w : World) (K : Fg) (mg : Str → Option Value) (base : Heap) (ct : Nat → Addr × List Str) (k c : Nat) (fn : DL) : Prop := ∃ f fd ps, FnOk P w K mg base CX0 k f fd ps (spD0 ⟨K, ct⟩ fn) ∧ Mk K (ct c).1 f ∧ Binds K fd ps []
def TxM (K : Fg) (C : Addr) (m qual : Str) (st : Stmt) (ps : List Str) : Prop := ∃ f fd, Fun K m qual st f fd ∧ Meth K C m f ∧ Binds K fd ps []
def TxI (K : Fg) (C : Addr) (qual : Str) (st : Stmt) (ps : List Str) : Prop := ∃ f fd, Fun K "__init__" qual st f fd ∧ Mk K C f ∧ Binds K fd ps []
theorem methd_mk {c : Nat} {m qual : Str} {st : Stmt} {N ps : List Str} {k : Nat} {d : DS} (T : TxM K (ct c).1 m qual st ps) (S : FnScope N ps (defScope st))
    (h : ∀ (f : Addr) (cdv : Value) (A : Around) (outer : List Env) (s : Shared) (H : Hp) (E : XK), Room k (A.deeper (envOfC qual (defScope st) s.heap.objs.size f cdv)) → PSsd (cxOf CX0 P w K mg base N qual (defScope st) f cdv A outer s H E).nox ct E0 (defBody st) d) :
    MethD P w K mg base ct (k + 1) c m (dDef ps.length N.length d) := by
  obtain ⟨f, fd, F, hm, hb⟩ := T
  exact ⟨f, fd, ps, fn_d F S (h f), hm, hb⟩
theorem initd_mk {c : Nat} {qual : Str} {st : Stmt} {N ps : List Str} {k : Nat} {d : DS} (T : TxI K (ct c).1 qual st ps) (S : FnScope N ps (defScope st))
    (h : ∀ (f : Addr) (cdv : Value) (A : Around) (outer : List Env) (s : Shared) (H : Hp) (E : XK), Room k (A.deeper (envOfC qual (defScope st) s.heap.objs.size f cdv)) → PSsd (cxOf CX0 P w K mg base N qual (defScope st) f cdv A outer s H E).nox ct E0 (defBody st) d) :
    InitD P w K mg base ct (k + 1) c (dDef ps.length N.length d) := by
  obtain ⟨f, fd, F, hm, hb⟩ := T
  exact ⟨f, fd, ps, fn_d F S (h f), hm, hb⟩
theorem MethD.mono {j k c : Nat} {x : Str} {fn : DL} (F : MethD P w K mg base ct j c x fn) (h : j ≤ k) : MethD P w K mg base ct k c x fn := by
  obtain ⟨f, fd, ps, h1, h2⟩ := F
  exact ⟨f, fd, ps, h1.mono h, h2⟩
theorem InitD.mono {j k c : Nat} {fn : DL} (F : InitD P w K mg base ct j c fn) (h : j ≤ k) : InitD P w K mg base ct k c fn := by
  obtain ⟨f, fd, ps, h1, h2⟩ := F
  exact ⟨f, fd, ps, h1.mono h, h2⟩
end
section
variable {X : Cx} {ct : Nat → Addr × List Str} {E : XK} {e o : Expr} {es : List Expr} {pos p apos : Pos} {d : DE} {dr : DA} {m : Str}
theorem snd_meth {c k : Nat} {fn : DL} {to : TE} {ta : TA} (hn : m ∉ (ct c).2) (ho : SndE ⟨X.K, ct⟩ E to d) (ha : SndA ⟨X.K, ct⟩ E ta dr) : SndE ⟨X.K, ct⟩ E (tMeth (ct c).1 m (spD0 ⟨X.K, ct⟩ fn) [] E0 to ta) (dMeth c fn d dr) := fun ρ σ H es eh Q rel h => by
  refine ho.bind rel h fun ρ1 H1 x eh1 u e1 rel1 v1 h1 => ?_
  split at h1
  · rename_i n
    split at h1
    · rename_i fs e3
      obtain ⟨a, dx, l, g1, g2, g3, g4, g5, g6, g7⟩ := obj_of rel1.hr e3
      have v1' := v1
      obtain ⟨a', q1, rfl⟩ := vr_ref.mp v1
      rw [g1] at q1; cases q1
      refine ⟨a, dx, l, rfl, g3, g7 m hn, ?_⟩
      refine ha.bind rel1 h1 fun ρ2 H2 xs eh2 us e2 rel2 v2 h2 => ?_
      exact ⟨ρ2, .ref n :: xs, eh2, by rw [List.append_nil]; exact vrs_cons.mpr ⟨.ref a, us, rfl, VR.mono e2 _ _ v1', v2⟩, rel2.hr, wr_noer h2⟩
    · exact h1.elim
  · exact h1.elim
theorem xe_meth (c : Nat) {k : Nat} {fn : DL} (pl : Sem Bool) (hc : Cd X.K (ct c)) (F : MethD X.prog X.w X.K X.mg X.base ct k c m fn) (hr : Room k X.A) (hn : m ∉ (ct c).2) (ho : PEd X ct E o d) (ha : PAd X ct E (e :: es) dr)
    (hst : starEach (e :: es) X.env = (false, eval e X.env) :: starEach es X.env := by rfl) (hpl : (backTo pos (starEach es X.env)).any (·.1) = false := by rfl)
    (ht : eval (.Call (.Attribute o m apos) (e :: es) [] pos) X.env = (do
      let ov ← eval o X.env
      standAt apos.atName
      let (f, first) ← holding [ov] (getMethod ov m pl)
      callWith pos f first (backTo pos (starEach (e :: es) X.env)) (backToKw pos (keywordEach [] X.env))) := by rfl) :
    PEd X ct E (.Call (.Attribute o m apos) (e :: es) [] pos) (dMeth c fn d dr) := by
  obtain ⟨f, fd, ps, h1, hm, hb⟩ := F
  obtain ⟨t, a1, a2⟩ := ho
  obtain ⟨u, b1, b2⟩ := ha
  exact ⟨_, pe_meth (pl := pl) a1 hc.cl hm h1 hr hb .nil pass0 b1 hst hpl ht, snd_meth (k := k) hn a2 b2⟩
theorem xe_meth0 (c : Nat) {k : Nat} {fn : DL} (pl : Sem Bool) (hc : Cd X.K (ct c)) (F : MethD X.prog X.w X.K X.mg X.base ct k c m fn) (hr : Room k X.A) (hn : m ∉ (ct c).2) (ho : PEd X ct E o d)
    (ht : eval (.Call (.Attribute o m apos) [] [] pos) X.env = (do
      let ov ← eval o X.env
      standAt apos.atName
      let (f, first) ← holding [ov] (getMethod ov m pl)
      callWith pos f first (backTo pos (starEach [] X.env)) (backToKw pos (keywordEach [] X.env))) := by rfl) :
    PEd X ct E (.Call (.Attribute o m apos) [] [] pos) (dMeth c fn d dNil) := by
  obtain ⟨f, fd, ps, h1, hm, hb⟩ := F
  obtain ⟨t, a1, a2⟩ := ho
  exact ⟨_, pe_meth0 (pl := pl) a1 hc.cl hm h1 hr hb .nil pass0 ht, snd_meth (k := k) hn a2 snd_nil⟩
theorem xe_make (c : Nat) {k : Nat} {x : Str} {fn : DL} (F : InitD X.prog X.w X.K X.mg X.base ct k c fn) (hr : Room (k + 1) X.A) (hg : Gl X x) (hm : X.mg x = some (.ref (ct c).1)) (ha : PAd X ct E (e :: es) dr)
    (hdb : (x == ("__debug__" : Str)) = false := by decide) (he : starEach (e :: es) X.env = (false, eval e X.env) :: starEach es X.env := by rfl) (hpl : (backTo pos (starEach es X.env)).any (·.1) = false := by rfl) :
    PEd X ct E (.Call (.Name x p) (e :: es) [] pos) (dMake c (ct c).2.length fn dr) := by
  obtain ⟨f, fd, ps, h1, hM, hb⟩ := F
  obtain ⟨u, b1, b2⟩ := ha
  refine ⟨_, pe_make hM h1 hr hg hm hb .nil pass0 b1 hdb he hpl, fun ρ σ H es eh Q rel h => ?_⟩
  refine b2.bind rel h fun ρ1 H1 xs eh1 us e1 rel1 v1 h1 => ?_
  intro a dx na ndx nex
  have nadx : a ≠ dx := fun z => nex z.symm
  have hr1 := rel1.hr.side (HO.own a) ndx
  have e2 : Ext X.K ρ1 ρ1 H1 (upd H1 dx (.own a)) := Ext.side _ ndx
  have na2 : upd H1 dx (.own a) a = none := by rw [upd_ne nadx]; exact na
  have e3 : Ext X.K ρ1 (ρ1 ++ [(true, a)]) (upd H1 dx (.own a)) (upd (upd H1 dx (.own a)) a (.ins (ct c).1 dx [])) := Ext.alloc _ na2
  have ho : OR ⟨X.K, ct⟩ (ρ1 ++ [(true, a)]) (upd (upd H1 dx (.own a)) a (.ins (ct c).1 dx [])) (.obj c (List.replicate (ct c).2.length none)) a := by
    refine ⟨dx, [], upd_same, by simp, by simp, fun i x hx m hm => ?_, fun m _ => rfl⟩
    rw [List.getElem?_replicate] at hx
    split at hx
    · cases hx; exact True.intro
    · cases hx
  have hr3 := hr1.alloc na2 rfl ho
  have hl := rel1.hr.len
  have hv : VR X.K (ρ1 ++ [(true, a)]) (upd (upd H1 dx (.own a)) a (.ins (ct c).1 dx [])) (.ref eh1.length) (.ref a) := vr_ref.mpr ⟨a, last_get hl, rfl⟩
  refine ⟨ρ1 ++ [(true, a)], .ref eh1.length :: xs, eh1 ++ [.obj c (List.replicate (ct c).2.length none)], ?_, hr3, ?_⟩
  · rw [List.append_nil]
    exact vrs_cons.mpr ⟨.ref a, us, rfl, hv, VRs.mono (e2.trans e3) _ _ v1⟩
  · have h2 := h1.mono (e2.trans e3)
    cases q : fn (.ref eh1.length :: xs) (eh1 ++ [.obj c (List.replicate (ct c).2.length none)]) with
    | no => rw [q] at h2; exact h2
    | er z h' => rw [q] at h2; exact h2.elim
    | ok v h' =>
      rw [q] at h2
      intro ρ4 H4 vv e4 hr4 r4
      simp only [noer_ok, bind_ok] at h2
      split at h2
      · exact ⟨vr_non.mp r4, h2 ρ4 H4 (.ref a) e4 hr4 (VR.mono e4 _ _ hv)⟩
      · exact h2.elim
end
end EE
set_option Elab.async false
set_option linter.all false
set_option maxRecDepth 100000
set_option maxHeartbeats 1000000
namespace EE
open PySem PySem.Spec PyProof.Rows L2
section
variable {K : Fg} {ρ : Rho} {H H' : Hp}
mutual
theorem VR.monoT (ht : ∀ a xs, H a = some (.tup xs) → H' a = some (.tup xs)) : ∀ (x : EV) (v : V), VR K ρ H x v → VR K ρ H' x v
  | .non, v, h => by simp only [VR] at h ⊢; exact h
  | .bl b, v, h => by simp only [VR] at h ⊢; exact h
  | .int i, v, h => by simp only [VR] at h ⊢; exact h
  | .str s, v, h => by simp only [VR] at h ⊢; exact h
  | .ty n, v, h => by simp only [VR] at h ⊢; exact h
  | .ref n, v, h => by simp only [VR] at h ⊢; exact h
  | .tup xs, v, h => by
    simp only [VR] at h ⊢
    obtain ⟨a, vs, h1, h2, h3⟩ := h
    exact ⟨a, vs, h1, ht _ _ h2, VRs.monoT ht xs vs h3⟩
theorem VRs.monoT (ht : ∀ a xs, H a = some (.tup xs) → H' a = some (.tup xs)) : ∀ (xs : List EV) (vs : List V), VRs K ρ H xs vs → VRs K ρ H' xs vs
  | [], vs, h => by simp only [VRs] at h ⊢; exact h
  | x :: xs, vs, h => by
    simp only [VRs] at h ⊢
    obtain ⟨v, r, h1, h2, h3⟩ := h
    exact ⟨v, r, h1, VR.monoT ht x v h2, VRs.monoT ht xs r h3⟩
end
end
section
variable {G : Gx} {ρ ρ' : Rho} {H H' : Hp} {eh : EH} {n : Nat} {a : Addr} {u : HO} {od : Obj} {t : Bool} {kvs : List (EV × EV)}
theorem OR.keepT (ht : ∀ b xs, H b = some (.tup xs) → H' b = some (.tup xs)) (hq : ∀ b vs, RoL G.K H b vs → RoL G.K H' b vs) {o : EO} {b : Addr} (hb : o.mu = true → H' b = H b) (h : OR G ρ H o b) : OR G ρ H' o b := by
  have m := fun x v => VR.monoT (K := G.K) (ρ := ρ) ht x v
  cases o with
  | lst xs =>
    obtain ⟨vs, h1, h2⟩ := h
    exact ⟨vs, by rw [hb rfl]; exact h1, VRs.monoT ht _ _ h2⟩
  | ro xs =>
    obtain ⟨vs, h1, h2⟩ := h
    exact ⟨vs, hq _ _ h1, VRs.monoT ht _ _ h2⟩
  | dic t kvs =>
    obtain ⟨u, h1, h2⟩ := h
    exact ⟨u, by rw [hb rfl]; exact h1, h2.mono m⟩
  | lkd t kvs =>
    obtain ⟨f, u, h1, h2⟩ := h
    exact ⟨f, u, by rw [hb rfl]; exact h1, h2.mono m⟩
  | obj c fs =>
    obtain ⟨dx, l, h1, h2, h3, h4, h5⟩ := h
    exact ⟨dx, l, by rw [hb rfl]; exact h1, h2, h3, fun i x hx n hn => (h4 i x hx n hn).mono m, h5⟩
theorem DR.nlst {R : EV → V → Prop} : ∀ {t : Bool} {kvs : List (EV × EV)} {u : HO}, DR R t kvs u → ∀ xs, u ≠ .lst xs
  | false, _, _, ⟨l, e, q⟩, _, z => by subst e; cases z
  | true, _, _, ⟨l, e, q⟩, _, z => by subst e; cases z
theorem lock_dic (hr : HR G ρ H eh) (hn : ρ[n]? = some (true, a)) (ha : H a = some u) (hd : DR (VR G.K ρ H) t kvs u) (od : Obj) : Ext G.K ρ ρ H (upd H a (.frz od u)) ∧ HR G ρ (upd H a (.frz od u)) (eh.set n (.lkd t kvs)) := by
  have e : Ext G.K ρ ρ H (upd H a (.frz od u)) := Ext.write _ hn ha hd.ntup hd.nfrz
  exact ⟨e, hr.write hn rfl e ⟨od, u, upd_same, hd.mono fun x v => VR.mono e x v⟩⟩
theorem unlock_ext (hn : (true, a) ∈ ρ) (ha : H a = some u) (h1 : ∀ xs, u ≠ .tup xs) (h2 : ∀ o v, u ≠ .frz o v) (e : Ext G.K ρ ρ' (upd H a (.frz od u)) H') : Ext G.K ρ ρ' H (upd H' a u) where
  pre := e.pre
  tup := fun b xs h => by
    have nb : b ≠ a := fun z => by subst z; rw [ha] at h; cases h; exact h1 _ rfl
    rw [upd_ne nb]
    exact e.tup _ _ (by rw [upd_ne nb]; exact h)
  frz := fun b o v h => by
    have nb : b ≠ a := fun z => by subst z; rw [ha] at h; cases h; exact h2 _ _ rfl
    rw [upd_ne nb]
    exact e.frz _ _ _ (by rw [upd_ne nb]; exact h)
  new := fun b hb => by
    rcases e.new b hb with z | z
    · exact .inl z
    · right
      have nb : b ≠ a := fun q => by subst q; rw [upd_same] at z; cases z
      rw [upd_ne nb] at z
      exact z
  rest := fun b o h hb => by
    have nb : b ≠ a := fun q => by subst q; exact hb hn
    rw [upd_ne nb]
    exact e.rest _ _ (by rw [upd_ne nb]; exact h) hb
theorem unlock_hr (hr : HR G ρ' H' eh) (hn : ρ'[n]? = some (true, a)) (ha : H' a = some (.frz od u)) (hd : DR (VR G.K ρ' H') t kvs u) : HR G ρ' (upd H' a u) (eh.set n (.dic t kvs)) := by
  have ht : ∀ b xs, H' b = some (.tup xs) → upd H' a u b = some (.tup xs) := fun b xs h => by
    rw [upd_ne (fun z => by subst z; rw [ha] at h; cases h)]
    exact h
  have hq : ∀ b vs, RoL G.K H' b vs → RoL G.K (upd H' a u) b vs := fun b vs h => by
    rcases h with ⟨o, h⟩ | h
    · refine .inl ⟨o, ?_⟩
      rw [upd_ne (fun z => by
        subst z
        rw [ha] at h
        cases h
        exact hd.nlst _ rfl)]
      exact h
    · exact .inr h
  refine ⟨by rw [List.length_set]; exact hr.len, hr.dis, fun j z hz => ?_⟩
  by_cases hj : n = j
  · subst hj
    have hl : n < eh.length := by
      have := (List.getElem?_eq_some_iff.mp hz).1
      simpa using this
    rw [List.getElem?_set_self hl] at hz
    cases hz
    exact ⟨a, hn, u, upd_same, hd.mono fun x v => VR.monoT ht x v⟩
  · rw [List.getElem?_set_ne hj] at hz
    obtain ⟨b, hb, hO⟩ := hr.obj j z hz
    refine ⟨b, hb, hO.keepT ht hq fun hm => upd_ne fun q => hj ?_⟩
    subst q
    rw [hm] at hb
    exact hr.dis n j b hn hb
end
def lkAt (h : EH) (n : Nat) : Option (Bool × List (EV × EV)) := match h[n]? with
  | some (.lkd t kvs) => some (t, kvs)
  | _ => none
def rLock {α : Type} (sel : DE) (es : ES) (h : EH) (k : EH → Res α) : Res α := match sel es h with
  | .ok (.ref n) _ => match mdicAt h n with
    | some (t, kvs) => (k (h.set n (.lkd t kvs))).noer.bind fun v h1 => match lkAt h1 n with
      | some (t', kvs') => .ok v (h1.set n (.dic t' kvs'))
      | none => .no
    | none => .no
  | _ => .no
def dLockE (sel d : DE) : DE := fun es h => rLock sel es h fun h1 => d es h1
def dLockS (sel : DE) (d : DS) : DS := fun es h => rLock sel es h fun h1 => d es h1
section
variable {G : Gx} {E : XK}
theorem lk_of {ρ : Rho} {H : Hp} {eh : EH} {n : Nat} {t : Bool} {kvs : List (EV × EV)} (hr : HR G ρ H eh) (h : lkAt eh n = some (t, kvs)) : ∃ a f u, ρ[n]? = some (true, a) ∧ H a = some (.frz f u) ∧ DR (VR G.K ρ H) t kvs u := by
  unfold lkAt at h
  split at h
  · rename_i t ys e
    cases h
    obtain ⟨a, h1, f, u, h2, h3⟩ := hr.obj n _ e
    exact ⟨a, f, u, h1, h2, h3⟩
  · cases h
theorem lock_any {α β : Type} {R : Rho → Hp → α → β → Prop} (hR : ∀ ρ H H' x v, (∀ a xs, H a = some (.tup xs) → H' a = some (.tup xs)) → R ρ H x v → R ρ H' x v) {sel : DE} {k : EH → Res α} {ρ : Rho} {σ : L2.St} {H : Hp} {es : ES} {eh : EH} {Q : β → Hp → Prop}
    (rel : Rel G ρ σ H es eh) (h : wr G R ρ H (rLock sel es eh k) Q E) :
    ∃ d u, H d = some u ∧ L2.Mut (some u) ∧ ∀ od, ∃ eh1, Rel G ρ σ (upd H d (.frz od u)) es eh1 ∧ wr G R ρ (upd H d (.frz od u)) (k eh1) (fun v H' => H' d = some (.frz od u) ∧ Q v (upd H' d u)) E := by
  unfold rLock at h
  split at h
  · rename_i n _ _
    split at h
    · rename_i t kvs e1
      obtain ⟨a, u, g1, g2, g3, g4⟩ := mdic_of rel.hr e1
      refine ⟨a, u, g2, g3.mt, fun od => ⟨eh.set n (.lkd t kvs), ?_⟩⟩
      obtain ⟨e2, hr2⟩ := lock_dic rel.hr g4 g2 g3 od
      refine ⟨rel.ext e2 hr2, ?_⟩
      cases q : k (eh.set n (.lkd t kvs)) with
      | no => rw [q] at h; exact h
      | er z h' => rw [q] at h; exact h.elim
      | ok v h' =>
        rw [q] at h
        simp only [noer_ok, bind_ok] at h
        intro ρ' H' w e hr' r
        have hfz := e.frz _ _ _ upd_same
        refine ⟨hfz, ?_⟩
        split at h
        · rename_i t' kvs' e3
          obtain ⟨a', f', u', j1, j2, j3⟩ := lk_of hr' e3
          have ea := e.toExt0.at g4
          rw [j1] at ea
          cases ea
          rw [hfz] at j2
          cases j2
          refine h ρ' _ w (unlock_ext (List.mem_of_getElem? g4) g2 g3.ntup g3.nfrz e) (unlock_hr hr' j1 hfz j3) (hR _ _ _ _ _ (fun b xs hb => ?_) r)
          rw [upd_ne (fun z => by subst z; rw [hfz] at hb; cases hb)]
          exact hb
        · exact h.elim
    · exact h.elim
  · exact h.elim
variable {X : Cx} {ct : Nat → Addr × List Str} {e : Expr} {st : Stmt} {d sel : DE} {ds : DS}
theorem xe_lock (sel : DE) (h : PEd X ct E e d) : PEd X ct E e (dLockE sel d) := by
  obtain ⟨t, h1, h2⟩ := h
  refine ⟨_, pe_lock h1, fun ρ σ H es eh Q rel hw => ?_⟩
  obtain ⟨a, u, g1, g2, g3⟩ := lock_any (R := VR X.K) (k := fun h1 => d es h1) (fun ρ H H' x v ht r => VR.monoT ht x v r) rel hw
  refine ⟨a, u, g1, g2, fun od => ?_⟩
  obtain ⟨eh1, rel1, w1⟩ := g3 od
  exact h2 ρ σ _ es eh1 _ rel1 w1
theorem xs_lock (sel : DE) (h : PSd X ct E st ds) : PSd X ct E st (dLockS sel ds) := by
  obtain ⟨t, h1, h2⟩ := h
  refine ⟨_, ps_lock h1, fun ρ σ H es eh D rel hw => ?_⟩
  obtain ⟨a, u, g1, g2, g3⟩ := lock_any (R := RF ⟨X.K, ct⟩) (fun ρ H H' x v ht r => by
    have key : ∀ {es : ES} {σ : L2.St}, SR X.K ρ H es σ → SR X.K ρ H' es σ := fun q => ⟨q.1, fun i v hv => by
      obtain ⟨u, h1, h2⟩ := q.2 i v hv
      exact ⟨u, h1, VR.monoT ht _ _ h2⟩⟩
    cases x with
    | nx es => cases v with
      | nx σ => exact key r
      | _ => exact r.elim
    | rt x => cases v with
      | rt v => exact VR.monoT ht _ _ r
      | _ => exact r.elim
    | bk es => cases v with
      | bk σ => exact key r
      | _ => exact r.elim
    | ct es => cases v with
      | ct σ => exact key r
      | _ => exact r.elim) rel hw
  refine ⟨a, u, g1, g2, fun od => ?_⟩
  obtain ⟨eh1, rel1, w1⟩ := g3 od
  refine h2 ρ σ _ es eh1 _ rel1 ?_
  cases q : ds es eh1 with
  | no => rw [q] at w1; exact w1
  | er z h' => rw [q] at w1; exact w1
  | ok v h' =>
    rw [q] at w1
    intro ρ' H' w e hr r
    have := w1 ρ' H' w e hr r
    cases w <;> exact this
end
def dItK (a : DE) : DI := fun es h => (a es h).bind fun x h1 => match x with
  | .ref n => match lkAt h1 n with
    | some (_, kvs) => .ok ⟨none, kvs.map (·.1), fun _ x => x⟩ h1
    | none => .no
  | _ => .no
section
variable {X : Cx} {ct : Nat → Addr × List Str} {E : XK} {G : Gx} {a tg : Expr} {da : DE}
theorem snd_itK {tl : TE} (ha : SndE G E tl da) : SndI G E (iKeys tl) (dItK da) := fun ρ σ H es eh Q rel h => by
  refine ha.bind rel h fun ρ1 H1 x eh1 v e1 rel1 v1 h1 => ?_
  split at h1
  · rename_i n
    split at h1
    · rename_i t kvs e2
      obtain ⟨p, f, u, g1, g2, g3⟩ := lk_of rel1.hr e2
      obtain ⟨p', q1, rfl⟩ := vr_ref.mp v1
      rw [adr_of g1] at q1; cases q1
      refine ⟨p, f, rfl, ?_⟩
      cases t with
      | false =>
        obtain ⟨l, rfl, hk⟩ := g3
        refine .inl ⟨l, g2, h1 ρ1 H1 _ (Ext.refl _ _ _) rel1.hr fun ρ' H' eh' xs e hr hc => ?_⟩
        cases hc
        have hz := e.frz _ _ _ g2
        refine ⟨fun i x hx => ?_, fun i hx => ?_⟩
        · rw [List.getElem?_map] at hx
          obtain ⟨p0, hp, rfl⟩ := Option.map_eq_some_iff.mp hx
          obtain ⟨k, w, k1, k2, k3⟩ := hk.at hp
          refine ⟨⟨hz, (List.getElem?_eq_some_iff.mp k1).1⟩, fun y H3 hy => ?_⟩
          obtain ⟨rfl, k', w', k1', rfl⟩ := hy
          rw [k1] at k1'
          cases k1'
          exact ⟨Ext.refl _ _ _, hr, keyOf_vr k2⟩
        · rw [List.getElem?_map, Option.map_eq_none_iff, List.getElem?_eq_none_iff] at hx
          exact ⟨hz, by rw [← hk.len]; exact hx⟩
      | true =>
        obtain ⟨l, rfl, hk⟩ := g3
        refine .inr ⟨l, g2, h1 ρ1 H1 _ (Ext.refl _ _ _) rel1.hr fun ρ' H' eh' xs e hr hc => ?_⟩
        cases hc
        have hz := e.frz _ _ _ g2
        refine ⟨fun i x hx => ?_, fun i hx => ?_⟩
        · rw [List.getElem?_map] at hx
          obtain ⟨p0, hp, rfl⟩ := Option.map_eq_some_iff.mp hx
          obtain ⟨k, w, k1, k2, k3⟩ := hk.at hp
          refine ⟨⟨hz, (List.getElem?_eq_some_iff.mp k1).1⟩, fun y H3 hy => ?_⟩
          obtain ⟨rfl, k', w', b, k1', rfl, hb⟩ := hy
          rw [k1] at k1'
          cases k1'
          exact ⟨Ext.refl _ _ _, hr, tkeyOf_vr k2 hb⟩
        · rw [List.getElem?_map, Option.map_eq_none_iff, List.getElem?_eq_none_iff] at hx
          exact ⟨hz, by rw [← hk.len]; exact hx⟩
    · exact h1.elim
  · exact h1.elim
theorem xi_keys (h : PEd X ct E a da) : PId X ct E tg a (dItK da) := by
  obtain ⟨t, h1, h2⟩ := h
  exact ⟨_, pi_keys h1, snd_itK h2⟩
end
def fKeysT : DL := fun xs h => match xs with
  | [.ref n] => match dicAt h n with
    | some (true, kvs) => .ok (.ref h.length) (h ++ [.lst (kvs.map (·.1))])
    | _ => .no
  | _ => .no
def fTupL : DL := fun xs h => match xs with
  | [.ref n] => match lstAt h n with
    | some ys => .ok (.tup ys) h
    | none => .no
  | _ => .no
section
variable {X : Cx} {ct : Nat → Addr × List Str} {E : XK} {G : Gx}
theorem keys_vrs {K : Fg} {ρ : Rho} {H : Hp} {R : EV → V → Prop} : ∀ {kvs : List (EV × EV)} {l : List (List Key × V)} {bs : List Addr}, KR tkeyOf R kvs l → IsKeys H l bs → VRs K ρ H (kvs.map (·.1)) (bs.map V.ref)
  | [], _, bs, h, q => by
    rw [h] at q
    cases bs with
    | nil => exact vrs_nil.mpr rfl
    | cons b bs => cases q
  | p :: ps, _, bs, ⟨k, v, r, e, h1, h2, h3⟩, q => by
    subst e
    cases q with
    | cons hb hr => exact vrs_cons.mpr ⟨_, _, rfl, tkeyOf_vr h1 hb, keys_vrs h3 hr⟩
theorem c_keysT (hc : X.calm = true) : Cld X ct E (.type "list") fKeysT := ⟨_, call_list_dT hc, fun ρ H eh xs as Q hr hx h => by
  unfold fKeysT at h
  split at h
  · rename_i n
    split at h
    · rename_i kvs e1
      obtain ⟨v, rfl, hv⟩ := vrs_one hx
      obtain ⟨a, u, g1, g2, g3⟩ := dic_of hr e1
      obtain ⟨a', q1, rfl⟩ := vr_ref.mp hv
      rw [g1] at q1; cases q1
      obtain ⟨l, rfl, hk⟩ := g3
      exact ⟨a, l, rfl, g2, fun p bs hp hb => new_lst hr (keys_vrs hk hb) h p hp⟩
    · exact h.elim
  · exact h.elim⟩
theorem c_tupL : Cld X ct E (.type "tuple") fTupL := ⟨_, call_tuple_of, fun ρ H eh xs as Q hr hx h => by
  unfold fTupL at h
  split at h
  · rename_i n
    split at h
    · rename_i ys e1
      obtain ⟨v, rfl, hv⟩ := vrs_one hx
      obtain ⟨a, vs, g1, g2, g3⟩ := lst_of hr e1
      obtain ⟨a', q1, rfl⟩ := vr_ref.mp hv
      rw [g1] at q1; cases q1
      refine ⟨a, vs, rfl, .inl ⟨g2, fun l hl => ?_⟩⟩
      exact h ρ _ _ (Ext.side _ hl) (hr.side _ hl) (vr_tup.mpr ⟨l, vs, rfl, upd_same, VRs.mono (Ext.side _ hl) _ _ g3⟩)
    · exact h.elim
  · exact h.elim⟩
end
end EE
set_option Elab.async false
set_option linter.all false
set_option maxRecDepth 100000
set_option maxHeartbeats 1000000
namespace EE
open PySem PySem.Spec PyProof.Rows L2 SrtO Srt
def pairAt (H : Hp) (b : Addr) : Int × Int := match H b with
  | some (.tup [.int i, .int j]) => (i, j)
  | _ => (0, 0)
def pv (H : Hp) : Value → Int × Int
  | .ref b => pairAt H b
  | _ => (0, 0)
def lexLe (p q : Int × Int) : Bool := !lexB q p
theorem lexLe_iff {p q : Int × Int} : lexLe p q = true ↔ p.1 < q.1 ∨ (p.1 = q.1 ∧ p.2 ≤ q.2) := by
  unfold lexLe
  rw [Bool.not_eq_true', lexB_no]
  omega
def psort (l : List (Int × Int)) : List (Int × Int) := l.mergeSort lexLe
theorem psort_perm (l : List (Int × Int)) : (psort l).Perm l := List.mergeSort_perm l _
theorem psort_pw (l : List (Int × Int)) : (psort l).Pairwise fun p q => lexLe p q = true := List.pairwise_mergeSort (fun a b c h1 h2 => by
  rw [lexLe_iff] at h1 h2 ⊢
  omega) (fun a b => by
  rw [Bool.or_eq_true, lexLe_iff, lexLe_iff]
  omega) l
theorem psort_eq {l m : List (Int × Int)} (h : m.Perm l) (hp : m.Pairwise fun p q => lexLe p q = true) : m = psort l := List.Perm.eq_of_pairwise (le := fun p q => lexLe p q = true) (fun a b _ _ h1 h2 => by
  rw [lexLe_iff] at h1 h2
  exact Prod.ext (by omega) (by omega)) hp (psort_pw l) (h.trans (psort_perm l).symm)
def isort (l : List Int) : List Int := l.mergeSort fun a b => decide (a ≤ b)
theorem isort_perm (l : List Int) : (isort l).Perm l := List.mergeSort_perm l _
theorem isort_pw (l : List Int) : (isort l).Pairwise (· ≤ ·) := (List.pairwise_mergeSort (le := fun a b : Int => decide (a ≤ b)) (fun a b c h1 h2 => by simp only [decide_eq_true_eq] at *; omega) (fun a b => by simp only [Bool.or_eq_true, decide_eq_true_eq]; omega) l).imp fun h => by simpa using h
theorem isort_eq {l m : List Int} (h : m.Perm l) (hp : m.Pairwise (· ≤ ·)) : m = isort l := List.Perm.eq_of_pairwise (le := (· ≤ ·)) (fun a b _ _ h1 h2 => by omega) hp (isort_pw l) (h.trans (isort_perm l).symm)
section
variable {X : Cx}
def rSortDT : List V → Hp → VK → Prop := fun xs H Q => ∃ (a : Addr) (kvs : List (List Key × V)), xs = [.ref a] ∧ Rd H a (.dT kvs) ∧ (∀ p ∈ kvs, ∃ i j : Int, p.1 = [.inl i, .inl j]) ∧
  ∀ (bs ys : List Addr) (p : Addr), IsKeys H kvs bs → ys.Perm bs → (ys.map (pairAt H)).Pairwise (fun p q => lexLe p q = true) → H p = none → Q (.ref p) (upd H p (.lst (ys.map V.ref)))
theorem isKeys_at {H : Hp} : ∀ {kvs : List (List Key × V)} {bs : List Addr}, IsKeys H kvs bs → ∀ b ∈ bs, ∃ p ∈ kvs, H b = some (.tup (p.1.map kV))
  | _, _, .nil, b, h => absurd h (by simp)
  | _, _, .cons (a := p) hb hr, b, h => by
    rcases List.mem_cons.mp h with e | h
    · subst e
      exact ⟨p, List.mem_cons_self, hb⟩
    · obtain ⟨q, hq, e⟩ := isKeys_at hr b h
      exact ⟨q, List.mem_cons_of_mem _ hq, e⟩
theorem call_sortedDT (hcalm : X.calm = true) : CallR X (.builtin "sorted") rSortDT := by
  intro pins s σ H xs us Q I r h
  obtain ⟨d, kvs, rfl, hd, hk, q⟩ := h
  obtain ⟨u, rfl, rx⟩ := r.one
  cases rx
  obtain ⟨z, hsys, raw, hpr, o, ents, ep, ho, hx, hdat, he, hn⟩ := (show ObjOk X.prog X.w H s.heap d (.dT kvs) from hd.ok I.hok)
  have c1 : ents.size = raw.length := size_of_entries he
  have c2 : kvs.length = raw.length := Paired.length hpr
  have h16 : ents.size ≤ sizeLine := by omega
  refine Calls.call_function_entry PyProof.Rows.kind_sorted PyProof.Rows.plain_sorted PyProof.Rows.entry_sorted (PyProof.Rows.args_sorted1 _) ?_
  unfold Builtin.«sorted»
  refine wpAny_bind (m := checkCount "sorted" 1 1 _) (wpAny_pure ?_)
  refine wpAny_bind (PySem.W.kdu_collect (A := X.A.in1) (kdl_raw hsys hx hdat) (I.ok.hd hcalm) ho h16 fun h' tk got stay walked => ?_)
  have ea : got.toList = raw.map fun x => Value.ref x.2.1 := by
    have hl : got.toList.length = raw.length := by rw [Array.length_toList, walked.1]; exact c1
    apply List.ext_getElem?
    intro j
    rw [List.getElem?_map]
    cases hjj : got.toList[j]? with
    | none =>
      have h1 := List.getElem?_eq_none_iff.mp hjj
      rw [List.getElem?_eq_none (by omega)]
      all_goals rfl
    | some v =>
      obtain ⟨ent, hent, hv⟩ := walked.2 j v (by rw [← Array.getElem?_toList]; exact hjj)
      have heq := entry_at he j
      rw [hent] at heq
      cases hbb : raw[j]? with
      | none =>
        rw [hbb] at heq
        exact nomatch (show some ent = none from heq)
      | some b =>
        rw [hbb] at heq
        have e2 := Option.some.inj heq
        rw [hv, e2]
        all_goals rfl
  generalize hbs : (raw.map fun x => x.2.1) = bs at *
  have eb : got.toList = bs.map Value.ref := by rw [ea, ← hbs, List.map_map]; all_goals rfl
  have hK : IsKeys H kvs bs := by rw [← hbs]; exact isKeys_of hpr
  have hlen : got.toList.length = bs.length := by rw [eb, List.length_map]
  have hbl : bs.length = raw.length := by rw [← hbs, List.length_map]
  have I1 : Inv X pins σ H { s with heap := h', toks := tk } := I.kept stay
  have hL : got.toList.length ≤ sizeLine := by omega
  refine wpAny_bind (wpAny_newList ?_ hL)
  have hgl : (h'.push (seqObj "list" got.toList.toArray 0)).get? h'.objs.size = some (seqObj "list" got.toList.toArray 0) := Heap.get?_push_size _ rfl
  show wpAny _ _ _ _ _ { s with heap := h'.push (seqObj "list" got.toList.toArray 0), toks := tk }
  have hp : ∀ v ∈ got.toList, IsPair (h'.push (seqObj "list" got.toList.toArray 0)) v (pv H v).1 (pv H v).2 := fun v hv => by
    rw [eb] at hv
    obtain ⟨b, hbb, rfl⟩ := List.mem_map.mp hv
    obtain ⟨p, hpm, hHb⟩ := isKeys_at hK b hbb
    obtain ⟨i, j, hij⟩ := hk p hpm
    rw [hij] at hHb
    have epv : pv H (.ref b) = (i, j) := by
      show pairAt H b = (i, j)
      unfold pairAt
      rw [hHb]
      rfl
    rw [epv]
    obtain ⟨_, its2, r2, o2, ho2, hc2, n2, hd2⟩ := I1.hok b _ hHb
    obtain ⟨w1, w2, rfl, r1, r2b⟩ := vals2 r2
    obtain ⟨t1, rfl⟩ := r1
    obtain ⟨t2, rfl⟩ := r2b
    exact ⟨b, o2, t1, t2, n2, rfl, Heap.get?_push_of_some _ ho2, hc2, hd2⟩
  refine wpAny_bind (wpAny_holding (wpAny_call_entry PyProof.Rows.slot_list_sort ⟨_, hgl, rfl⟩ PyProof.Rows.entry_list_sort
    (SrtO.list_sort_ord (s := { s with heap := h'.push (seqObj "list" got.toList.toArray 0), toks := tk }) (SrtO.swo_lex fun u => pv H u) hgl hL (fun h2 => SrtO.pairs_sortableO (by omega) hp fun o e => ?_) fun out h1 h2 => ⟨_, rfl, ?_⟩) (PyProof.Rows.args_list_sort _)))
  · have e' : some o = some (seqObj "list" got.toList.toArray 0) := e.symm.trans hgl
    cases e'
    intro c
    exact absurd (Value.type.inj c) (by decide)
  · obtain ⟨e', he'⟩ := PyProof.Rows.sortedHeap_at (vs := got.toList) (out := out.toArray) hgl
    obtain ⟨ys, hys⟩ : ∃ ys : List Addr, out = ys.map Value.ref := by
      refine ⟨out.map fun v => match v with | .ref b => b | _ => 0, ?_⟩
      rw [List.map_map]
      refine (List.map_id' out).symm.trans (List.map_congr_left fun v hv => ?_)
      have hm := h2.perm.mem_iff.mp hv
      rw [eb] at hm
      obtain ⟨b, _, rfl⟩ := List.mem_map.mp hm
      rfl
    have hperm : ys.Perm bs := by
      have := h2.perm
      rw [hys, eb] at this
      have h3 := this.map fun v => match v with | .ref b => b | _ => 0
      rw [List.map_map, List.map_map] at h3
      have e3 : ∀ l : List Addr, l.map ((fun v => match v with | Value.ref b => b | _ => 0) ∘ Value.ref) = l := fun l => by
        rw [show ((fun v => match v with | Value.ref b => b | _ => 0) ∘ Value.ref) = id from rfl, List.map_id]
      rw [e3, e3] at h3
      exact h3
    have hsort : (ys.map (pairAt H)).Pairwise (fun p q => lexLe p q = true) := by
      rw [List.pairwise_map]
      have h3 := h1
      rw [hys] at h3
      have h4 := List.pairwise_map.mp h3
      refine h4.imp fun {x y} hxy => ?_
      have hxy : lexB (pairAt H y) (pairAt H x) = false := hxy
      unfold lexLe
      rw [hxy]
      rfl
    have hz : (ys.map V.ref).length ≤ sizeLine := by
      rw [List.length_map, hperm.length_eq]
      omega
    refine wpAny_pure ⟨_, rfl, .ref h'.objs.size, upd H h'.objs.size (.lst (ys.map V.ref)), I1.laid (t' := tk) (fun b u e => ?_) (Nat.le_refl _)
      (show ObjOk X.prog X.w _ _ _ (.lst (ys.map V.ref)) from ⟨hz, out, e', by rw [hys]; exact vals_refs ys, he'⟩), rfl, q bs ys _ hK hperm hsort (I1.hok.fresh (Nat.le_refl _))⟩
    have hbb : b < h'.objs.size := Heap.lt_size e
    rw [PyProof.Rows.sortedHeap_old (Nat.ne_of_lt hbb) (by rw [size_push']; exact Nat.lt_succ_of_lt hbb)]
    exact Heap.get?_push_of_some _ e
end
def intsE : List EV → Option (List Int)
  | [] => some []
  | x :: r => match x, intsE r with
    | .int i, some l => some (i :: l)
    | _, _ => none
def pairsE : List EV → Option (List (Int × Int))
  | [] => some []
  | x :: r => match x, pairsE r with
    | .tup [.int i, .int j], some l => some ((i, j) :: l)
    | _, _ => none
def pairE (p : Int × Int) : EV := .tup [.int p.1, .int p.2]
theorem intsE_map : ∀ (l : List Int), intsE (l.map EV.int) = some l
  | [] => rfl
  | x :: l => by simp only [List.map_cons, intsE, intsE_map l]
theorem intsE_eq : ∀ {xs : List EV} {l : List Int}, intsE xs = some l → xs = l.map EV.int
  | [], l, h => by cases h; rfl
  | x :: r, l, h => by
    unfold intsE at h
    split at h
    · rename_i i m e
      cases h
      rw [intsE_eq e]
      rfl
    · cases h
theorem pairsE_map : ∀ (l : List (Int × Int)), pairsE (l.map pairE) = some l
  | [] => rfl
  | x :: l => by
    have ih := pairsE_map l
    simp only [List.map_cons, pairE, pairsE] at ih ⊢
    rw [ih]
theorem pairsE_eq : ∀ {xs : List EV} {l : List (Int × Int)}, pairsE xs = some l → xs = l.map pairE
  | [], l, h => by cases h; rfl
  | x :: r, l, h => by
    unfold pairsE at h
    split at h
    · rename_i i j m e
      cases h
      rw [pairsE_eq e]
      rfl
    · cases h
def fSortI : DL := fun xs h => match xs with
  | [.ref n] => match lstAt h n with
    | some ys => match intsE ys with
      | some l => .ok (.ref h.length) (h ++ [.lst ((isort l).map EV.int)])
      | none => .no
    | none => .no
  | _ => .no
def fSortT : DL := fun xs h => match xs with
  | [.ref n] => match dicAt h n with
    | some (true, kvs) => match pairsE (kvs.map (·.1)) with
      | some l => .ok (.ref h.length) (h ++ [.lst ((psort l).map pairE)])
      | none => .no
    | _ => .no
  | _ => .no
def fSortD : DL := fun xs h => match xs with
  | [.ref n] => match dicAt h n with
    | some (false, kvs) => match intsE (kvs.map (·.1)) with
      | some l => if l.length < 64 then .ok (.ref h.length) (h ++ [.lst ((isort l).map EV.int)]) else .no
      | none => .no
    | _ => .no
  | _ => .no
theorem KR.keys {κ : Type} {f : EV → Option κ} {R : EV → V → Prop} : ∀ {ps : List (EV × EV)} {l : List (κ × V)}, KR f R ps l → ps.map (fun p => f p.1) = l.map fun p => some p.1
  | [], _, h => by rw [h]; rfl
  | p :: ps, _, ⟨k, v, r, e, h1, h2, h3⟩ => by
    subst e
    rw [List.map_cons, List.map_cons, KR.keys h3, h1]
theorem keyOf_ints : ∀ {xs : List EV} {l : List Int} {ks : List Key}, intsE xs = some l → xs.map keyOf = ks.map some → ks = l.map Sum.inl
  | [], l, ks, h, e => by
    cases h
    simpa using e.symm
  | x :: r, l, ks, h, e => by
    unfold intsE at h
    split at h
    · rename_i i m q
      cases h
      cases ks with
      | nil => simp at e
      | cons k ks =>
        simp only [List.map_cons, List.cons.injEq] at e
        have := e.1
        unfold keyOf at this
        cases this
        rw [keyOf_ints q e.2]
        rfl
    · cases h
theorem tkeyOf_pairs : ∀ {xs : List EV} {l : List (Int × Int)} {ks : List (List Key)}, pairsE xs = some l → xs.map tkeyOf = ks.map some → ks = l.map fun p => [Sum.inl p.1, Sum.inl p.2]
  | [], l, ks, h, e => by
    cases h
    simpa using e.symm
  | x :: r, l, ks, h, e => by
    unfold pairsE at h
    split at h
    · rename_i i j m q
      cases h
      cases ks with
      | nil => simp at e
      | cons k ks =>
        simp only [List.map_cons, List.cons.injEq] at e
        have h1 := e.1
        simp only [tkeyOf, keysOf, keyOf, Option.some.injEq] at h1
        rw [tkeyOf_pairs q e.2, ← h1]
        rfl
    · cases h
theorem pairs_at {K : Fg} {ρ : Rho} {H : Hp} : ∀ {kvs : List (List Key × V)} {l : List (Int × Int)} {bs : List Addr}, (kvs.map (·.1)) = l.map (fun p => [Sum.inl p.1, Sum.inl p.2]) → IsKeys H kvs bs → bs.map (pairAt H) = l ∧ ∀ b ∈ bs, VR K ρ H (pairE (pairAt H b)) (.ref b)
  | _, l, _, h, .nil => by
    have : l = [] := by simpa using h.symm
    subst this
    exact ⟨rfl, fun b hb => absurd hb (by simp)⟩
  | _, [], _, h, .cons hb hr => by simp at h
  | _, p :: l, _, h, .cons (b := b) hb hr => by
    simp only [List.map_cons, List.cons.injEq] at h
    obtain ⟨h1, h2⟩ := pairs_at (K := K) (ρ := ρ) h.2 hr
    rw [h.1] at hb
    have hb' : H b = some (.tup [.int p.1, .int p.2]) := hb
    have e : pairAt H b = p := by
      unfold pairAt
      rw [hb']
    refine ⟨by rw [List.map_cons, h1, e], fun c hc => ?_⟩
    rcases List.mem_cons.mp hc with q | q
    · subst q
      rw [e]
      exact vr_tup.mpr ⟨c, _, rfl, hb', vrs_cons.mpr ⟨_, _, rfl, vr_int.mpr rfl, vrs_cons.mpr ⟨_, _, rfl, vr_int.mpr rfl, vrs_nil.mpr rfl⟩⟩⟩
    · exact h2 c q
theorem vrs_pairs {K : Fg} {ρ : Rho} {H : Hp} : ∀ {ys : List Addr}, (∀ b ∈ ys, VR K ρ H (pairE (pairAt H b)) (.ref b)) → VRs K ρ H ((ys.map (pairAt H)).map pairE) (ys.map V.ref)
  | [], _ => vrs_nil.mpr rfl
  | y :: ys, h => vrs_cons.mpr ⟨_, _, rfl, h y List.mem_cons_self, vrs_pairs fun b hb => h b (List.mem_cons_of_mem _ hb)⟩
section
variable {X : Cx} {ct : Nat → Addr × List Str} {E : XK} {G : Gx}
theorem c_sortI : Cld X ct E (.builtin "sorted") fSortI := ⟨_, cr_sortedI, fun ρ H eh xs as Q hr hx h => by
  unfold fSortI at h
  split at h
  · rename_i n
    split at h
    · rename_i ys e1
      split at h
      · rename_i l e2
        obtain ⟨v, rfl, hv⟩ := vrs_one hx
        obtain ⟨a, vs, g1, g2, g3⟩ := lst_of hr e1
        obtain ⟨a', q1, rfl⟩ := vr_ref.mp hv
        rw [g1] at q1; cases q1
        rw [intsE_eq e2] at g3
        rw [VRs.of_ints g3] at g2
        refine ⟨a, l, rfl, g2, fun ns' p hp hs hn => ?_⟩
        rw [isort_eq hp hs]
        exact new_lst hr (VRs.ints _) h p hn
      · exact h.elim
    · exact h.elim
  · exact h.elim⟩
theorem c_sortT (hc : X.calm = true) : Cld X ct E (.builtin "sorted") fSortT := ⟨_, call_sortedDT hc, fun ρ H eh xs as Q hr hx h => by
  unfold fSortT at h
  split at h
  · rename_i n
    split at h
    · rename_i kvs e1
      split at h
      · rename_i l e2
        obtain ⟨v, rfl, hv⟩ := vrs_one hx
        obtain ⟨a, u, g1, g2, g3⟩ := dic_of hr e1
        obtain ⟨a', q1, rfl⟩ := vr_ref.mp hv
        rw [g1] at q1; cases q1
        obtain ⟨m, rfl, hk⟩ := g3
        have hkeys : m.map (·.1) = l.map fun p => [Sum.inl p.1, Sum.inl p.2] := by
          refine tkeyOf_pairs e2 ?_
          rw [List.map_map, List.map_map]
          exact hk.keys
        refine ⟨a, m, rfl, g2, fun p hp => ?_, fun bs ys p hK hperm hs hn => ?_⟩
        · have : p.1 ∈ l.map fun p => [Sum.inl p.1, Sum.inl p.2] := by
            rw [← hkeys]
            exact List.mem_map.mpr ⟨p, hp, rfl⟩
          obtain ⟨z, _, hz⟩ := List.mem_map.mp this
          exact ⟨z.1, z.2, hz.symm⟩
        · obtain ⟨k1, k2⟩ := pairs_at (K := X.K) (ρ := ρ) hkeys hK
          have e3 : ys.map (pairAt H) = psort l := by
            refine psort_eq ?_ hs
            rw [← k1]
            exact hperm.map _
          have hv := vrs_pairs (K := X.K) (ρ := ρ) fun b hb => k2 b (hperm.mem_iff.mp hb)
          rw [e3] at hv
          exact new_lst hr hv h p hn
      · exact h.elim
    · exact h.elim
  · exact h.elim⟩
theorem c_sortD (hc : X.calm = true) : Cld X ct E (.builtin "sorted") fSortD := ⟨_, call_sortedDI hc, fun ρ H eh xs as Q hr hx h => by
  unfold fSortD at h
  split at h
  · rename_i n
    split at h
    · rename_i kvs e1
      split at h
      · rename_i l e2
        split at h
        · rename_i hl
          obtain ⟨v, rfl, hv⟩ := vrs_one hx
          obtain ⟨a, u, g1, g2, g3⟩ := dic_of hr e1
          obtain ⟨a', q1, rfl⟩ := vr_ref.mp hv
          rw [g1] at q1; cases q1
          obtain ⟨m, rfl, hk⟩ := g3
          have hkeys : m.map (·.1) = l.map Sum.inl := by
            refine keyOf_ints e2 ?_
            rw [List.map_map, List.map_map]
            exact hk.keys
          refine ⟨a, m, l, rfl, g2, hkeys, hl, fun ys p hp hs hn => ?_⟩
          rw [isort_eq hp hs]
          exact new_lst hr (VRs.ints _) h p hn
        · exact h.elim
      · exact h.elim
    · exact h.elim
  · exact h.elim⟩
abbrev fSorted : DL := dLor fSortI (dLor fSortT fSortD)
theorem c_sorted (hc : X.calm = true) : Cld X ct E (.builtin "sorted") fSorted := c_sortI.or ((c_sortT hc).or (c_sortD hc))
end
end EE
set_option Elab.async false
set_option linter.all false
set_option maxRecDepth 100000
set_option maxHeartbeats 1000000
namespace EE
open PySem PySem.Spec PyProof.Rows L2
section
variable {X : Cx} {pins : List (Addr × Obj)} {σ : L2.St} {H : Hp} {s : Shared} {d : Addr} {o : Obj}
theorem frz_raw {kvs : List (List Key × V)} (I : Inv X pins σ H s) (h : H d = some (.frz o (.dT kvs))) :
    (d == sysModules) = false ∧ ∃ (ent : Array DictEntry) (ep : Nat), DT.Raw s.heap d ent ep ∧ o.data = .dict ent ep ∧ ent.size = kvs.length ∧
      ∀ (i : Nat) (k : List Key) (v : V) (hi : i < ent.size), kvs[i]? = some (k, v) → ∃ q : Addr, ent[i].key = .ref q ∧ H q = some (.tup (k.map kV)) ∧ RelV v ent[i].val := by
  obtain ⟨h0, z, hsys, raw, hpr, o', ent, ep, ho, hx, hdat, hent, hnd⟩ := I.hok d _ h
  rw [h0] at ho
  cases ho
  refine ⟨hsys, ent, ep, ⟨o, h0, hx, hdat⟩, hdat, ?_, fun i k v hi e => ?_⟩
  · rw [size_of_entries hent, Paired.length hpr]
  · obtain ⟨b, b1, b2, b3, b4⟩ := paired_get hpr e
    have q := entry_at hent i
    rw [b1, Array.getElem?_eq_getElem hi] at q
    have e2 := Option.some.inj q
    refine ⟨b.2.1, ?_, b3, ?_⟩
    · rw [e2]
      rfl
    · rw [e2]
      exact b4
end
def ItiT (d : Addr) (o : Obj) (kvs : List (List Key × V)) : It where
  go := fun i H => H d = some (.frz o (.dT kvs)) ∧ i < kvs.length
  yld := fun i H x H' => ∃ (T q : Addr) (k : List Key) (v : V), kvs[i]? = some (k, v) ∧ H q = some (.tup (k.map kV)) ∧ x = .ref T ∧ H T = none ∧ H' = upd H T (.tup [.ref q, v])
  stop := fun i H => H d = some (.frz o (.dT kvs)) ∧ kvs.length ≤ i
theorem turn_itemsT {P : Program} {w : World} {K : Fg} {d : Addr} {o : Obj} {ent : Array DictEntry} {ep : Nat} {kvs : List (List Key × V)} {elts : List Expr} {kk : Nat} {tpos : Pos} (it : Addr) (hod : o.data = .dict ent ep) :
    Turn P w K (.Tuple elts kk tpos) (ItiT d o kvs) [it] it (fun i h => ∃ c1 c2, IsItemIter h it d i kvs.length ep c1 c2) where
  mem := List.mem_singleton.mpr rfl
  obj := fun i h st b hb => by
    obtain ⟨c1, c2, e⟩ := st
    rw [List.mem_singleton.mp hb]
    exact ⟨_, e, fun v z => nomatch z⟩
  keep := fun i h h' st k => let ⟨c1, c2, e⟩ := st; ⟨c1, c2, k it (List.mem_singleton.mpr rfl) _ e⟩
  item := by
    intro X hP hw hK hc i pins s σ H E I hf st hg
    subst hP hw hK
    obtain ⟨g1, g2⟩ := hg
    obtain ⟨hsys, ent', ep', hraw, hdat, hsz, hat⟩ := frz_raw I g1
    obtain ⟨rfl, rfl⟩ := dict_ep hod hdat
    have hi : i < ent'.size := by rw [hsz]; exact g2
    have hkv : kvs[i]? = some (kvs[i].1, kvs[i].2) := List.getElem?_eq_getElem g2
    obtain ⟨q, hq1, hq2, hq3⟩ := hat i _ _ hi hkv
    obtain ⟨c1, c2, hst⟩ := st
    rw [← hsz] at hst
    have hlt : it < s.heap.objs.size := Heap.lt_size hst
    refine DT.nextI hst hraw hi fun h1 k1 k2 k3 k4 => ?_
    refine ⟨_, rfl, wpAny_letOwnedTupleGo_items (s := { s with heap := h1 }) k1 fun h2 j1 sb => ?_⟩
    have hT : h2.get? s.heap.objs.size = some { cls := .type "tuple", data := .seq #[.ref q, ent'[i].val] } := by
      rw [← hq1]
      exact (sb.2 _ (Nat.ne_of_gt hlt)).trans k2
    have new : ObjOk X.prog X.w (upd H s.heap.objs.size (.tup [.ref q, kvs[i].2])) h2 s.heap.objs.size (.tup [.ref q, kvs[i].2]) :=
      ⟨by show 2 ≤ sizeLine; decide, [.ref q, ent'[i].val], .cons rfl (.cons hq3 .nil), ⟨_, hT, rfl, _, rfl⟩⟩
    have I1 : Inv X pins σ (upd H s.heap.objs.size (.tup [.ref q, kvs[i].2])) { s with heap := h2 } :=
      I.turnedNew (t' := s.toks) (ch := [it]) (fun b ob hb e => (sb.2 b (fun z => hb (List.mem_singleton.mpr z))).trans (k4 b ob (fun z => hb (List.mem_singleton.mpr z)) e)) hf (Nat.le_refl _) new
    refine ⟨.ref s.heap.objs.size, _, I1, rfl, ⟨_, q, _, _, hkv, hq2, rfl, I.hok.fresh (Nat.le_refl _), rfl⟩, ⟨ent'[i].key, ent'[i].val, ?_⟩, fun b hb => ?_⟩
    · rw [← hsz]
      exact j1
    · rw [List.mem_singleton.mp hb, upd_ne (Nat.ne_of_lt hlt)]
      exact (hf it (List.mem_singleton.mpr rfl)).1
  done := by
    intro X hP hw hK hc i pins s σ H E I hf st hg
    subst hP hw hK
    obtain ⟨g1, g2⟩ := hg
    obtain ⟨f0, f1, f2, f3, f4, f5⟩ := hf it (List.mem_singleton.mpr rfl)
    obtain ⟨hsys, ent', ep', hraw, hdat, hsz, hat⟩ := frz_raw I g1
    obtain ⟨rfl, rfl⟩ := dict_ep hod hdat
    obtain ⟨c1, c2, hst⟩ := st
    rw [← hsz] at hst
    exact DT.endI (I.ok.hd hc) hst hraw (by rw [hsz]; exact g2) fun h' eb => ⟨rfl, I.turned (t' := s.toks) (fun b ob hb e => eb b ob hb e) f0 f1 f3 f4 f5⟩
  self := fun A i s Q E st h => let ⟨_, _, e⟩ := st; PySem.W.kcp_self e h
def iItemsT (td : TE) : TI := fun σ H R => td σ H fun x H1 => ∃ d o kvs, x = .ref d ∧ H1 d = some (.frz o (.dT kvs)) ∧ R (ItiT d o kvs) H1
section
variable {X : Cx} {e : Expr} {td : TE} {apos cpos : Pos}
theorem pi_itemsT {elts : List Expr} {kk : Nat} {tpos : Pos} (he : PE X e td) (hbase : attributeBase e "items" X.env (eval e X.env) = eval e X.env := by rfl) (hline : (apos.endLine == cpos.line) = true := by rfl) :
    PI X (.Tuple elts kk tpos) (.Call (.Attribute e "items" apos) [] [] cpos) (iItemsT td) := by
  refine ⟨fun pins s σ H R I h => wpAny_Call_method (T := "dict") (id := "dict.items") hbase rfl hline PySem.F.plainAttrs_dict PySem.F.slot_dict_items PySem.F.type_dict_items (thn (he.run pins s σ H _ I h) fun u s1 ⟨x, H1, I1, rx, d, o, kvs, ex, hd, q⟩ => ?_)⟩
  subst ex
  cases (show u = Value.ref d from rx)
  obtain ⟨hsys, ent, ep, hraw, hdat, hsz, hat⟩ := frz_raw I1 hd
  refine ⟨hraw.typeIs, fun b q => ?_, ?_⟩
  · cases q
    obtain ⟨ob, h1, h2, _⟩ := hraw
    exact ⟨ob, h1, h2.2.1⟩
  have I2 : Inv X pins σ H1 { s1 with heap := s1.heap.push { cls := .type "dict_items", data := .fields #[.ref d] } } := I1.kept (t' := s1.toks) fun b ob q => Heap.get?_push_of_some _ q
  have fin : wpAny (model X.prog X.w) X.A (pyIter (.ref s1.heap.objs.size)) (PIE X pins σ (.Tuple elts kk tpos) R) X.xe { s1 with heap := s1.heap.push { cls := .type "dict_items", data := .fields #[.ref d] } } := by
    refine DT.iterI (d := d) ⟨_, Heap.get?_push_size _ rfl, rfl, rfl⟩ (hraw.push _) (pi_one (tk := s1.toks) I2 _ (turn_itemsT (kvs := kvs) _ hdat) ⟨.none, .none, ?_⟩ q)
    rw [← hsz]
    exact Heap.get?_push_size _ rfl
  show wpAny _ _ (callWith cpos (.builtin "dict.items") [.ref d] [] []) _ X.xe s1
  exact method_meetsIn PySem.F.slot_dict_items PySem.F.entry_dict_items rfl (PySem.evalArgs_none ⟨rfl, hraw.typeIs, PySem.F.args_dict_items_1 _, _, DT.meetsItems (es := ent) (ep := ep) hsys, hraw, fin⟩)
end
def dItIT (a : DE) : DI := fun es h => (a es h).bind fun x h1 => match x with
  | .ref n => match lkAt h1 n with
    | some (true, kvs) => .ok ⟨none, kvs.map (fun p => .tup [p.1, p.2]), fun _ x => x⟩ h1
    | _ => .no
  | _ => .no
section
variable {X : Cx} {ct : Nat → Addr × List Str} {E : XK} {G : Gx} {a : Expr} {da : DE}
theorem snd_itIT {tl : TE} (ha : SndE G E tl da) : SndI G E (iItemsT tl) (dItIT da) := fun ρ σ H es eh Q rel h => by
  refine ha.bind rel h fun ρ1 H1 x eh1 v e1 rel1 v1 h1 => ?_
  split at h1
  · rename_i n
    split at h1
    · rename_i kvs e2
      obtain ⟨p, f, u, g1, g2, g3⟩ := lk_of rel1.hr e2
      obtain ⟨p', q1, rfl⟩ := vr_ref.mp v1
      rw [adr_of g1] at q1; cases q1
      obtain ⟨l, rfl, hk⟩ := g3
      refine ⟨p, f, l, rfl, g2, h1 ρ1 H1 _ (Ext.refl _ _ _) rel1.hr fun ρ' H' eh' xs e hr hc => ?_⟩
      cases hc
      have hz := e.frz _ _ _ g2
      refine ⟨fun i x hx => ?_, fun i hx => ?_⟩
      · rw [List.getElem?_map] at hx
        obtain ⟨p0, hp, rfl⟩ := Option.map_eq_some_iff.mp hx
        obtain ⟨k, w, k1, k2, k3⟩ := hk.at hp
        refine ⟨⟨hz, (List.getElem?_eq_some_iff.mp k1).1⟩, fun y H3 hy => ?_⟩
        obtain ⟨T, b, k', w', k1', hb, rfl, hT, rfl⟩ := hy
        rw [k1] at k1'
        cases k1'
        have e3 : Ext G.K ρ' ρ' H' (upd H' T (.tup [.ref b, w])) := Ext.side _ hT
        refine ⟨e3, hr.side _ hT, vr_tup.mpr ⟨T, _, rfl, upd_same, vrs_cons.mpr ⟨_, _, rfl, ?_, VRs.one ?_⟩⟩⟩
        · exact VR.mono e3 _ _ (tkeyOf_vr k2 hb)
        · exact VR.mono (e.trans e3) _ _ k3
      · rw [List.getElem?_map, Option.map_eq_none_iff, List.getElem?_eq_none_iff] at hx
        exact ⟨hz, by rw [← hk.len]; exact hx⟩
    · exact h1.elim
  · exact h1.elim
theorem xi_itemsT {elts : List Expr} {kk : Nat} {tpos apos cpos : Pos} (h : PEd X ct E a da) (hbase : attributeBase a "items" X.env (eval a X.env) = eval a X.env := by rfl) (hline : (apos.endLine == cpos.line) = true := by rfl) :
    PId X ct E (.Tuple elts kk tpos) (.Call (.Attribute a "items" apos) [] [] cpos) (dItIT da) := by
  obtain ⟨t, h1, h2⟩ := h
  exact ⟨_, pi_itemsT h1 hbase hline, snd_itIT h2⟩
end
end EE
set_option Elab.async false
set_option linter.all false
set_option maxRecDepth 100000
set_option maxHeartbeats 1000000
namespace EE
open PySem PySem.Spec PyProof.Rows L2
abbrev InBlk (X : Cx) (scope : Scope) (R : Cx → Prop) : Prop := ∀ (s : Shared) (H : Hp) (C : Addr) (cl : List (Str × Addr)) (fs : List Addr), R (X.blk s H scope (compEnvC scope cl C X.env) fs)
theorem obj_empty {o0 : HO} (ho0 : o0 = .dK [] ∨ o0 = .dT []) {P : Program} {w : World} {H : Hp} (h : Heap) (hb : sysModules < h.objs.size) : ObjOk P w H (h.push { cls := .type "dict", data := .dict #[] }) h.objs.size o0 := by
  rcases ho0 with rfl | rfl
  · exact dk_empty h hb
  · exact dt_empty h hb
section
variable {X : Cx}
theorem d_dictSet2 {pins : List (Addr × Obj)} {σ : L2.St} {H H' : Hp} {s : Shared} {E : Value → Shared → Prop} {D : Addr} {y v : V} {u r : Value} {Q : Unit → Shared → Prop} (hu : X.A.units + 1 < cLine) (I : Inv X pins σ H s) (g : DPut H D y v H')
    (ry : RelV y u) (rv : RelV v r) (h : ∀ s', Inv X pins σ H' s' → Q () s') : wpAny (model X.prog X.w) X.A (dictSet D u r) Q E s := by
  rcases g with ⟨kvs, k, e, rfl, l, rfl⟩ | ⟨kvs, k, b, e, rfl, eb, l, rfl⟩
  · exact d_dictSet I e l ry rv h
  · cases (show u = Value.ref b from ry)
    obtain ⟨z, hd, xs, rel, dd⟩ := dt_of I.hok e
    have c1 : xs.length ≤ sizeLine := by rw [← Paired.length rel]; exact z
    have c2 := length_putK kvs k v
    refine wpAny_dictSet_heap (hsz := c1) (show X.A.units < cLine by omega) (key_of I.hok eb) dd fun h' dd' hs => h _ ?_
    obtain ⟨q, es, ep, j1, j2, j3, j4, _, j6⟩ := dd'
    refine d_write I (by rw [e]; exact True.intro) hs ⟨q, j1⟩ ⟨by omega, hd, _, (rel.put k eb rv).keeps fun c ys ec => ?_, q, es, ep, j1, j2, j3, j4, j6⟩
    have n : c ≠ D := ne_of ec e fun z => nomatch z
    rw [upd_ne n]
    exact ec
def tDcG (o0 : HO) (wi : TI) (g : TG) (tt : TT) (tk tv : TE) (vs : List Nat) : TE := fun σ H Q => wi σ H fun J H1 => ∀ D, H1 D = none → ∃ W : Nat → Nat → Hp → Prop, (∃ m, W 0 m (upd H1 D o0)) ∧ ∀ i m H, W i m H →
  (J.stop i H ∧ Q (.ref D) H) ∨ (J.go i H ∧ ∃ Nxt : Hp → Prop, (∀ H', Nxt H' → ∃ m', m' < m ∧ W (i + 1) m' H') ∧ ∀ x H', J.yld i H x H' → g x (wipe σ vs) H' fun σ2 H2 => wipe σ2 vs = wipe σ vs ∧ tt σ2 H2 fun b H3 =>
    if b = true then tk σ2 H3 fun y H4 => tv σ2 H4 fun z H5 => ∃ H6, DPut H5 D y z H6 ∧ Nxt H6 else Nxt H3)
theorem dict_comp_any {o0 : HO} (ho0 : o0 = .dK [] ∨ o0 = .dT []) (hu : X.A.units + 1 < cLine) {pins : List (Addr × Obj)} {s : Shared} {σ : L2.St} {H : Hp} {Q : VK} {kx vx tg iter : Expr} {ifs : List Expr} {scope : Scope} {own : List (Str × Nat)} {pos posq : Pos} {wi : TI} {g : TG} {tt : TT} {tk tv : TE} {use : Option (Value → Sem Unit)} {Qf : Value → Shared → Prop}
    (hc : X.calm = true) (hN : X.N.Nodup) (I : L2.Inv X pins σ H s) (hi : PI X tg iter wi) (ok : BlkOk X.N X.env.scope scope own)
    (hg : InBlk X scope fun Y => PG Y tg g) (ht : InBlk X scope fun Y => PTs Y ifs tt)
    (hk : InBlk X scope fun Y => PE Y kx tk)
    (he : InBlk X scope fun Y => PE Y vx tv) (hs : ∀ x, foldedSetIterable iter X.env x = pure x)
    (h : tDcG o0 wi g tt tk tv (own.map (·.2)) σ H Q)
    (hRR : ∀ D C s' m H', L2.Inv X pins σ H' s' → Q (.ref D) H' → s'.heap.Ns C m → FpOk X pins H' C → compPost (model X.prog X.w) X.A X.xe use Qf (.ref D) C (.ok .next) s') :
    wpAny (model X.prog X.w) X.A (comprehension (.DictComp kx vx [⟨tg, iter, ifs, 0⟩] scope pos) scope X.env posq newDict false (eval iter X.env) use) Qf X.xe s := by
  have frees : ∀ y ∈ scope.names, y.2 = .free → ∃ c, X.env.cells.lookup y.1 = some c := fun y hy e => by
    exact (ok.free y hy e).elim (fun k => I.ok.has _ (.inl k)) fun k => I.ok.has _ (.inr k)
  refine wpAny_comprehension_free (use := use) rfl hs (closure_ok frees) ok.kind (fun y hy e => by rw [ok.uniq y hy, e])
    (thn (hi.run pins s σ H _ I h) fun xv t1 hx => thn hx fun itv t2 h2 => ?_)
  obtain ⟨it, fps, tn, J, U2, e, J2, T, z2, w2, q⟩ := h2
  subst e
  refine wpAny_newObj_type (newEnv_comp ?_)
  generalize eD : t2.heap.objs.size = D
  have nD : U2 D = none := J2.hok.fresh (Nat.le_of_eq eD)
  obtain ⟨W, ⟨m0, w0⟩, turn⟩ := q D nD
  -- the new list
  generalize e3 : ({ t2 with heap := t2.heap.push { cls := .type "dict", data := .dict #[] } } : Shared) = t3
  have J3 : L2.Inv X pins σ (upd U2 D o0) t3 := by
    rw [← e3]
    refine J2.laid (t' := t2.toks) (fun b o e => Heap.get?_push_of_some _ e) (Nat.le_of_eq eD) ?_
    rw [← eD]
    exact obj_empty ho0 t2.heap J2.big
  have h3 : t3.heap = t2.heap.push { cls := .type "dict", data := .dict #[] } := by rw [← e3]
  have small : ∀ b ∈ fps, b < t2.heap.objs.size := fun b hb => by
    obtain ⟨o, e, _⟩ := T.obj _ _ z2 b hb
    exact Heap.lt_size e
  have w3 : ∀ b ∈ fps, FpOk X pins (upd U2 D o0) b ∧ b < t3.heap.objs.size := fun b hb => by
    have hlt := small b hb
    refine ⟨⟨?_, (w2 b hb).2⟩, by rw [h3, Heap.size_push]; exact Nat.lt_succ_of_lt hlt⟩
    rw [upd_ne (by rw [← eD]; exact Nat.ne_of_lt hlt)]
    exact (w2 b hb).1
  have z3 : tn 0 t3.heap := T.keep _ _ _ z2 fun b _ o e => by rw [h3]; exact Heap.get?_push_of_some _ e
  have J4 := block_start J3 ok hN w3
  have qg := hg t3 (upd U2 D o0) t3.heap.objs.size (cellsFrom (t3.heap.objs.size + 1) scope.names (cloFrom X.env.cells scope.names [])) fps
  have qt := ht t3 (upd U2 D o0) t3.heap.objs.size (cellsFrom (t3.heap.objs.size + 1) scope.names (cloFrom X.env.cells scope.names [])) fps
  have qk := hk t3 (upd U2 D o0) t3.heap.objs.size (cellsFrom (t3.heap.objs.size + 1) scope.names (cloFrom X.env.cells scope.names [])) fps
  have qe := he t3 (upd U2 D o0) t3.heap.objs.size (cellsFrom (t3.heap.objs.size + 1) scope.names (cloFrom X.env.cells scope.names [])) fps
  show codeAny _ _ (.compStart (.DictComp kx vx [⟨tg, iter, ifs, 0⟩] scope pos) 0 (.ref it) (.ref D) (compEnvC scope (cellsFrom (t3.heap.objs.size + 1) scope.names (cloFrom X.env.cells scope.names [])) t3.heap.objs.size X.env)) (compPost (model X.prog X.w) X.A X.xe use Qf (.ref D) t3.heap.objs.size) { t3 with heap := pushCells (t3.heap.push { cls := .type "dict", data := .dict #[] }) scope.names }
  have nfp : ∀ b ∈ fps, (upd U2 D o0) b = none := fun b hb => (w3 b hb).1.1
  generalize hce : compEnvC scope (cellsFrom (t3.heap.objs.size + 1) scope.names (cloFrom X.env.cells scope.names [])) t3.heap.objs.size X.env = cenv at J4 qg qt qk qe ⊢
  have cL : cenv.locals = t3.heap.objs.size := by subst hce; rfl
  generalize hH3 : upd U2 D o0 = U3 at J3 J4 qg qt qk qe w0 nfp w3
  generalize e4 : ({ t3 with heap := pushCells (t3.heap.push { cls := .type "dict", data := .dict #[] }) scope.names } : Shared) = t4 at J4 ⊢
  have z4 : tn 0 t4.heap := T.keep _ _ _ z3 fun b _ o e => by rw [← e4]; exact pushCells_keeps _ _ _ _ (Heap.get?_push_of_some _ e)
  have stays : ∀ {σ' : L2.St} {H' : Hp} {s' : Shared}, L2.Inv (X.blk t3 U3 scope cenv fps) [] σ' H' s' → (∀ b ∈ fps, H' b = none) → ∀ b ∈ fps, FpOk (X.blk t3 U3 scope cenv fps) [] H' b := fun {σ' H' s'} Jq hn b hb =>
    ⟨hn b hb, (Jq.ok.exf b hb).1, Jq.ok.exfs b hb, .inl hb, fun x c e => (Jq.ok.exf b hb).2 x c e, fun p hp => absurd (show p ∈ ([] : List (Addr × Obj)) ++ [] from hp) (by simp)⟩
  have looped : codeAny (model X.prog X.w) X.A (.compLoop (.DictComp kx vx [⟨tg, iter, ifs, 0⟩] scope pos) 0 (.ref it) (.ref D) cenv) (compPost (model X.prog X.w) X.A X.xe use Qf (.ref D) t3.heap.objs.size) t4 := by
    refine compLoop_anyD (fun n s' => ∃ i H', L2.Inv (X.blk t3 U3 scope cenv fps) [] (wipe σ (own.map (·.2))) H' s' ∧ tn i s'.heap ∧ (∀ b ∈ fps, H' b = none) ∧ W i n H') ?_ m0 ⟨0, U3, J4, z4, nfp, w0⟩
    rintro n t5 ⟨i, U5, J5, z5, n5, w5⟩
    rcases turn i n U5 w5 with ⟨stops, qq⟩ | ⟨goes, Nxt, hNxt, step⟩
    · have td := T.done (X.blk t3 U3 scope cenv fps) rfl rfl rfl hc i [] t5 _ U5 (fun _ _ => False) J5 (stays J5 n5) z5 stops
      refine thnF td fun r t6 ⟨hr, J6⟩ => ?_
      subst hr
      -- back in the def's context
      have J7 : L2.Inv X pins σ U5 t6 := J3.call' (ch := fps) J6.os J6.base J6.hok J6.bare fun b hb => ⟨(w3 b hb).1.2.2.2.1, (w3 b hb).1.2.1, (w3 b hb).1.2.2.2.2.1, (w3 b hb).1.2.2.2.2.2⟩
      have nC : U5 t3.heap.objs.size = none := by
        have z : U5 cenv.locals = none := J6.free
        rw [cL] at z
        exact z
      obtain ⟨m, hn, _⟩ := J6.loc
      have hn : t6.heap.Ns cenv.locals m := hn
      rw [cL] at hn
      exact hRR D t3.heap.objs.size t6 m U5 J7 qq hn (J3.fpOk (Nat.le_refl _) nC)
    · have ti := T.item (X.blk t3 U3 scope cenv fps) rfl rfl rfl hc i [] t5 _ U5 (fun _ _ => False) J5 (stays J5 n5) z5 goes
      refine thnF ti fun r t6 ⟨u, hr, h6⟩ => ?_
      subst hr
      refine thnF h6 fun _ t7 ⟨x, U7, J7, r7, y7, z7, n7⟩ => ?_
      have J7' := J7.pinned (stays J7 n7) (T.obj _ _ z7)
      refine thnF (qg.run _ t7 _ U7 x u _ J7' r7 (step x U7 y7)) fun _ t8 ⟨σ8, U8, J8, hwp, q8⟩ => ?_
      refine thnF (qt.run _ t8 σ8 U8 _ J8 q8) fun b t9 ⟨U9, J9, qn⟩ => ?_
      -- the turn's end
      have fin : ∀ {s' : Shared} {H' : Hp}, L2.Inv (X.blk t3 U3 scope cenv fps) ([] ++ pinsAt fps t7.heap) σ8 H' s' → Nxt H' → ∃ m, m < n ∧ ∃ i H', L2.Inv (X.blk t3 U3 scope cenv fps) [] (wipe σ (own.map (·.2))) H' s' ∧ tn i s'.heap ∧ (∀ b ∈ fps, H' b = none) ∧ W i m H' := fun {s' H'} Jq nx => by
        obtain ⟨m', hm, w'⟩ := hNxt H' nx
        have pin' : ∀ b ∈ fps, ∀ o, t7.heap.get? b = some o → s'.heap.get? b = some o ∧ H' b = none := fun b hb o e =>
          let z := Jq.pin (b, o) (List.mem_append_right _ (List.mem_append_right _ (mem_pinsAt hb e)))
          ⟨z.1, z.2.1⟩
        have hl : (wipe σ (own.map (·.2))).length = σ8.length := by rw [← hwp, wipe_length]
        refine ⟨m', hm, i + 1, H', (Jq.unpinned (pins := [])).weak hl (fun j v e => ?_), T.keep _ _ _ z7 fun b hb o e => (pin' b hb o e).1, fun b hb => ?_, w'⟩
        · rw [← hwp] at e
          exact (wipe_some e).1
        · obtain ⟨o, e, _⟩ := T.obj _ _ z7 b hb
          exact (pin' b hb o e).2
      cases b with
      | false =>
        simp only [Bool.false_eq_true, if_false] at qn ⊢
        exact fin J9 qn
      | true =>
        simp only [if_true] at qn ⊢
        refine thnF (qk.run _ t9 σ8 U9 _ J9 qn) fun z s10 ⟨yk, H10, I10, r10, q10⟩ => ?_
        refine thnF (qe.run _ s10 σ8 H10 _ I10 q10) fun z2 s11 ⟨yv, H11, I11, r11, H12, put, nx⟩ => ?_
        exact d_dictSet2 (X := X.blk t3 U3 scope cenv fps) hu I11 put r10 r11 fun s12 I12 => fin I12 nx
  exact codeAny_compStart_dict looped (T.self X.A 0 _ _ _ z4 looped)
theorem pe_dcG {o0 : HO} (ho0 : o0 = .dK [] ∨ o0 = .dT []) (hu : X.A.units + 1 < cLine) {kx vx tg iter : Expr} {ifs : List Expr} {scope : Scope} {own : List (Str × Nat)} {pos : Pos} {wi : TI} {g : TG} {tt : TT} {tk tv : TE} (hc : X.calm = true) (hN : X.N.Nodup) (hi : PI X tg iter wi) (ok : BlkOk X.N X.env.scope scope own)
    (hg : InBlk X scope fun Y => PG Y tg g) (ht : InBlk X scope fun Y => PTs Y ifs tt)
    (hk : InBlk X scope fun Y => PE Y kx tk)
    (hv : InBlk X scope fun Y => PE Y vx tv) (hs : ∀ x, foldedSetIterable iter X.env x = pure x := by intro _; rfl) :
    PE X (.DictComp kx vx [⟨tg, iter, ifs, 0⟩] scope pos) (tDcG o0 wi g tt tk tv (own.map (·.2))) := by
  refine ⟨fun pins s σ H Q I h => ?_⟩
  rw [arm_eval_DictComp]
  refine dict_comp_any ho0 hu hc hN I hi ok hg ht hk hv hs h fun D C s' m H' Jq q hn f => ⟨m, hn, fun h'' sb => ?_⟩
  exact ⟨.ref D, H', Jq.turned (t' := s'.toks) (fun b o hb e => (sb.2 b hb).trans e) f.1 f.2.1 f.2.2.2.1 f.2.2.2.2.1 f.2.2.2.2.2, rfl, q⟩
end
end EE
set_option Elab.async false
set_option linter.all false
set_option maxRecDepth 100000
set_option maxHeartbeats 1000000
namespace EE
open PySem PySem.Spec PyProof.Rows L2
def dcGo (kd : Bool) (it : Wlk) (g : DG) (t : DT) (k e : DE) (vs : List Nat) : Nat → Nat → List (EV × EV) → ES → EH → Res (List (EV × EV))
  | 0, _, _, _, _ => .no
  | m + 1, i, acc, es, h => match it.cur h with
    | none => .no
    | some xs => match xs[i]? with
      | none => .ok acc h
      | some x => (g (it.tl i x) (wip es vs) h).bind fun es1 h1 => (t es1 h1).bind fun b h2 =>
        if b = true then (k es1 h2).bind fun y h3 => (e es1 h3).bind fun z h4 => match dputE kd acc y z with
          | some acc' => if acc.length < 50000 then dcGo kd it g t k e vs m (i + 1) acc' es h4 else .no
          | none => .no
        else dcGo kd it g t k e vs m (i + 1) acc es h2
def dDc (kd : Bool) (di : DI) (g : DG) (t : DT) (k e : DE) (vs : List Nat) : DE := fun es h => (di es h).bind fun it h1 => match it.cur h1 with
  | none => .no
  | some xs => (dcGo kd it g t k e vs (xs.length + 1) 0 [] es h1).bind fun ys h2 => .ok (.ref h2.length) (h2 ++ [.dic kd ys])
def o0 : Bool → HO
  | false => .dK []
  | true => .dT []
theorem o0_ok : ∀ kd, o0 kd = .dK [] ∨ o0 kd = .dT []
  | false => .inl rfl
  | true => .inr rfl
theorem o0_dr {R : EV → V → Prop} : ∀ kd, DR R kd [] (o0 kd)
  | false => ⟨[], rfl, rfl⟩
  | true => ⟨[], rfl, rfl⟩
section
variable {G : Gx} {E : XK}
theorem put_raw {ρ : Rho} {H : Hp} {D : Addr} {u : HO} {kd : Bool} {kvs kvs' : List (EV × EV)} {x v : EV} {y w : V} (hD : H D = some u) (hd : DR (VR G.K ρ H) kd kvs u) (hp : dputE kd kvs x v = some kvs') (hl : kvs.length < 50000) (hx : VR G.K ρ H x y) (hv : VR G.K ρ H v w) :
    ∃ u', DPut H D y w (upd H D u') ∧ DR (VR G.K ρ H) kd kvs' u' := by
  have hz : kvs.length < sizeLine := Nat.lt_of_lt_of_le hl (by decide)
  cases kd with
  | false =>
    obtain ⟨l, rfl, hk⟩ := hd
    obtain ⟨k, e1, e2⟩ := Option.map_eq_some_iff.mp hp
    subst e2
    exact ⟨_, .inl ⟨l, k, hD, keyOf_eq e1 hx, by rw [← hk.len]; exact hz, rfl⟩, _, rfl, hk.put e1 hv⟩
  | true =>
    obtain ⟨l, rfl, hk⟩ := hd
    obtain ⟨k, e1, e2⟩ := Option.map_eq_some_iff.mp hp
    subst e2
    obtain ⟨b, rfl, hb⟩ := tkeyOf_eq e1 hx
    exact ⟨_, .inr ⟨l, k, b, hD, rfl, hb, by rw [← hk.len]; exact hz, rfl⟩, _, rfl, hk.put e1 hv⟩
theorem ext0_upd2 {K : Fg} {ρ : Rho} {H : Hp} {p : Addr} {u0 u : HO} (h : H p = some u0) (h1 : ∀ xs, u0 ≠ .tup xs) (h2 : ∀ o v, u0 ≠ .frz o v) : Ext0 K ρ ρ H (upd H p u) where
  pre := ⟨[], by simp⟩
  tup := fun a ys q => by
    rw [upd_ne (fun z => by subst z; rw [h] at q; cases q; exact h1 _ rfl)]
    exact q
  frz := fun a o v q => by
    rw [upd_ne (fun z => by subst z; rw [h] at q; cases q; exact h2 _ _ rfl)]
    exact q
theorem snd_dc {kd : Bool} {wi : TI} {g : TG} {tt : TT} {tk te : TE} {vs : List Nat} {di : DI} {dg : DG} {dt : DT} {dk de : DE} (hi : SndI G E wi di) (hg : SndG G E g dg) (ho : OnlyIn g vs) (ht : SndT G E tt dt) (hk : SndE G E tk dk) (he : SndE G E te de) :
    SndE G E (tDcG (o0 kd) wi g tt tk te vs) (dDc kd di dg dt dk de vs) := fun ρ σ H es eh Q rel h => by
  refine hi.bind rel h fun ρ1 H1 it eh1 J e1 rel1 jr h1 => ?_
  split at h1
  · exact h1.elim
  · rename_i xs0 _
    intro Dl hD
    let St := fun (m i : Nat) (H : Hp) => ∃ ρ' eh acc us, Ext G.K ρ1 ρ' H1 H ∧ HR G ρ' H eh ∧ (true, Dl) ∉ ρ' ∧ H Dl = some us ∧ DR (VR G.K ρ' H) kd acc us ∧
      wr G (VR G.K) ρ1 H1 ((dcGo kd it dg dt dk de vs m i acc es eh).bind fun ys h2 => .ok (.ref h2.length) (h2 ++ [.dic kd ys])) Q E
    refine ⟨fun i m H => St m i H, ⟨_, ρ1, eh1, [], o0 kd, Ext.side _ hD, rel1.hr.side _ hD, rel1.hr.fresh hD, upd_same, o0_dr kd, h1⟩, ?_⟩
    rintro i m H' ⟨ρ', eh', acc, us, e', hr', hn, hDl, hacc, hw⟩
    cases m with
    | zero => exact hw.elim
    | succ m =>
      unfold dcGo at hw
      split at hw
      · exact hw.elim
      · rename_i xs hxs
        obtain ⟨j1, j2⟩ := jr ρ' H' eh' xs e' hr' hxs
        split at hw
        · rename_i hnone
          refine .inl ⟨j2 i hnone, ?_⟩
          have e5 := e'.push hD
          have e0 : Ext0 G.K ρ' (ρ' ++ [(true, Dl)]) H' H' := ⟨⟨[(true, Dl)], rfl⟩, fun _ _ q => q, fun _ _ _ q => q⟩
          exact hw (ρ' ++ [(true, Dl)]) H' _ e5 (hr'.push (o := .dic kd acc) hn rfl ⟨us, hDl, hacc.mono fun x v => VR.mono0 e0 x v⟩) (vr_ref.mpr ⟨Dl, last_get hr'.len, rfl⟩)
        · rename_i x hx
          obtain ⟨go, yl⟩ := j1 i x hx
          refine .inr ⟨go, fun H2 => St m (i + 1) H2, fun H2 q => ⟨m, Nat.lt_succ_self m, q⟩, fun y H3 hy => ?_⟩
          obtain ⟨e3, hr3, v3⟩ := yl y H3 hy
          have keepD : ∀ {ρa ρb : Rho} {Ha Hb : Hp}, Ext G.K ρa ρb Ha Hb → (true, Dl) ∉ ρa → Ha Dl = some us → (true, Dl) ∉ ρb ∧ Hb Dl = some us := fun e hn h => by
            refine ⟨fun hm => ?_, e.rest _ _ h hn⟩
            rcases e.new _ hm with z | z
            · exact hn z
            · rw [h] at z; cases z
          have d3 := keepD e3 hn hDl
          have sr : SR G.K ρ' H3 (wip es vs) (wipe σ vs) := ((rel1.sl.mono e').mono e3).wip vs
          have en : Ext G.K ρ1 ρ' H1 H3 := e'.trans e3
          refine ho (wipe σ vs) y (wipe σ vs) H3 (fun σ2 H2 => tt σ2 H2 fun b H3 =>
              if b = true then tk σ2 H3 fun y H4 => te σ2 H4 fun z H5 => ∃ H6, DPut H5 Dl y z H6 ∧ St m (i + 1) H6 else St m (i + 1) H3) _ (wipe_wipe vs) (fun σ2 H2 w q => ⟨w, q⟩) ?_
          refine hg ρ' (wipe σ vs) H3 (wip es vs) eh' (it.tl i x) y _ ⟨sr, hr3⟩ v3 ?_
          cases qg : dg (it.tl i x) (wip es vs) eh' with
          | no =>
            rw [qg] at hw
            exact hw
          | er z h' =>
            rw [qg] at hw
            exact fun ρ' H' c own e' hr q => hw ρ' H' c own (en.trans e') hr q
          | ok es4 eh4 =>
            rw [qg] at hw
            intro ρ4 H4 σ4 e4 hr4 sr4
            have d4 := keepD e4 d3.1 d3.2
            simp only [bind_ok] at hw
            have hw4 : wr G (VR G.K) ρ1 H1 ((dt es4 eh4).bind fun b h2 => (if b = true then (dk es4 h2).bind fun y h3 => (de es4 h3).bind fun z h4 => match dputE kd acc y z with
                | some acc' => if acc.length < 50000 then dcGo kd it dg dt dk de vs m (i + 1) acc' es h4 else .no
                | none => .no else dcGo kd it dg dt dk de vs m (i + 1) acc es h2).bind fun ys h2 => .ok (.ref h2.length) (h2 ++ [.dic kd ys])) Q E := by
              cases qt : dt es4 eh4 with
              | ok b h2 => rw [qt] at hw; exact hw
              | er z h2 => rw [qt] at hw; exact hw
              | no => rw [qt] at hw; exact hw
            refine ht.bind0 ⟨sr4, hr4⟩ (en.trans e4) hw4 fun ρ5 H5 b eh5 b' e5 rel5 v5 h5 => ?_
            subst v5
            have d5 := keepD e5 d4.1 d4.2
            have e15 := (en.trans e4).trans e5
            have acc5 : DR (VR G.K ρ5 H5) kd acc us := hacc.mono fun x v q => VR.mono ((e3.trans e4).trans e5) x v q
            cases b with
            | false => exact iteF ⟨ρ5, eh5, acc, us, e15, rel5.hr, d5.1, d5.2, acc5, h5⟩
            | true =>
              simp only [if_true] at h5
              have h5' : wr G (VR G.K) ρ1 H1 ((dk es4 eh5).bind fun y h3 => ((de es4 h3).bind fun z h4 => match dputE kd acc y z with
                | some acc' => if acc.length < 50000 then dcGo kd it dg dt dk de vs m (i + 1) acc' es h4 else .no
                | none => .no).bind fun ys h2 => .ok (.ref h2.length) (h2 ++ [.dic kd ys])) Q E := by
                cases qt : dk es4 eh5 with
                | ok b h2 => rw [qt] at h5; exact h5
                | er z h2 => rw [qt] at h5; exact h5
                | no => rw [qt] at h5; exact h5
              refine iteT (hk.bind0 rel5 e15 h5' fun ρ6 H6 y6 eh6 u6 e6 rel6 v6 h6 => ?_)
              have d6 := keepD e6 d5.1 d5.2
              have h6' : wr G (VR G.K) ρ1 H1 ((de es4 eh6).bind fun z h4 => (match dputE kd acc y6 z with
                | some acc' => if acc.length < 50000 then dcGo kd it dg dt dk de vs m (i + 1) acc' es h4 else .no
                | none => .no).bind fun ys h2 => Res.ok (EV.ref h2.length) (h2 ++ [EO.dic kd ys])) Q E := by
                cases qt : de es4 eh6 with
                | ok b h2 => rw [qt] at h6; exact h6
                | er z h2 => rw [qt] at h6; exact h6
                | no => rw [qt] at h6; exact h6
              refine he.bind0 rel6 (e15.trans e6) h6' fun ρ7 H7 z7 eh7 u7 e7 rel7 v7 h7 => ?_
              have d7 := keepD e7 d6.1 d6.2
              have acc7 : DR (VR G.K ρ7 H7) kd acc us := acc5.mono fun x v q => VR.mono (e6.trans e7) x v q
              split at h7
              · rename_i acc' ha'
                split at h7
                · rename_i hl
                  obtain ⟨u', p1, p2⟩ := put_raw (G := G) d7.2 acc7 ha' hl (v6.mono e7) v7
                  have em : Ext G.K ρ1 ρ7 H1 (upd H7 Dl u') := ((e15.trans e6).trans e7).mut hD
                  have eb : Ext0 G.K ρ7 ρ7 H7 (upd H7 Dl u') := ext0_upd2 d7.2 acc7.ntup acc7.nfrz
                  exact ⟨_, p1, ρ7, eh7, acc', u', em, rel7.hr.ext eb fun a ha => upd_ne fun z => d7.1 (z ▸ ha), d7.1, upd_same, p2.mono fun x v q => VR.mono0 eb x v q, h7⟩
                · exact h7.elim
              · exact h7.elim
variable {X : Cx} {ct : Nat → Addr × List Str} {kx vx tg iter c : Expr} {scope : Scope} {pos : Pos} {di : DI} {dg : DG} {dt : DT} {dk de : DE}
theorem xe_dc (kd : Bool) (own : List (Str × Nat)) {g : TG} (hu : X.A.units + 1 < cLine) (hc : X.calm = true) (hN : X.N.Nodup) (hi : PId X ct E tg iter di) (hk : InBlk X scope fun Y => PEd Y ct E kx dk) (hv : InBlk X scope fun Y => PEd Y ct E vx de)
    (hg : InBlk X scope fun Y => PG Y tg g) (hg2 : SndG ⟨X.K, ct⟩ E g dg) (ho : OnlyIn g (own.map (·.2)))
    (ok : blkC X.N X.env.scope scope own = true := by kernel_rfl) (hs : ∀ x, foldedSetIterable iter X.env x = pure x := by intro _; rfl) :
    PEd X ct E (.DictComp kx vx [⟨tg, iter, [], 0⟩] scope pos) (dDc kd di dg dYes dk de (own.map (·.2))) := by
  obtain ⟨wi, i1, i2⟩ := hi
  exact ⟨_, pe_dcG (o0_ok kd) hu hc hN i1 (blkOk_by ok) hg (fun _ _ _ _ _ => pts_nil) (fun s H C cl fp => (hk s H C cl fp).can) (fun s H C cl fp => (hv s H C cl fp).can) hs, snd_dc i2 hg2 ho snd_yes snd_tE snd_tE⟩
theorem xe_dci (kd : Bool) (own : List (Str × Nat)) {g : TG} (hu : X.A.units + 1 < cLine) (hc : X.calm = true) (hN : X.N.Nodup) (hi : PId X ct E tg iter di) (ht : InBlk X scope fun Y => PTd Y ct E c dt) (hk : InBlk X scope fun Y => PEd Y ct E kx dk) (hv : InBlk X scope fun Y => PEd Y ct E vx de)
    (hg : InBlk X scope fun Y => PG Y tg g) (hg2 : SndG ⟨X.K, ct⟩ E g dg) (ho : OnlyIn g (own.map (·.2)))
    (ok : blkC X.N X.env.scope scope own = true := by kernel_rfl) (hs : ∀ x, foldedSetIterable iter X.env x = pure x := by intro _; rfl) :
    PEd X ct E (.DictComp kx vx [⟨tg, iter, [c], 0⟩] scope pos) (dDc kd di dg dt dk de (own.map (·.2))) := by
  obtain ⟨wi, i1, i2⟩ := hi
  exact ⟨_, pe_dcG (o0_ok kd) hu hc hN i1 (blkOk_by ok) hg (fun s H C cl fp => pts_one (ht s H C cl fp).can) (fun s H C cl fp => (hk s H C cl fp).can) (fun s H C cl fp => (hv s H C cl fp).can) hs, snd_dc i2 hg2 ho snd_tT snd_tE snd_tE⟩
end
end EE
set_option Elab.async false
set_option linter.all false
set_option maxRecDepth 100000
set_option maxHeartbeats 1000000
namespace EE
open PySem PySem.Spec PyProof.Rows L2
def mergeT (acc : List (List Key × V)) (rest : List (List Key × V)) : List (List Key × V) := rest.foldl (fun a q => putK a q.1 q.2) acc
theorem mergeT_len (rest : List (List Key × V)) : ∀ acc, (mergeT acc rest).length ≤ acc.length + rest.length := by
  induction rest with
  | nil => intro acc; exact Nat.le_refl _
  | cons q rest ih =>
    intro acc
    have h1 := ih (putK acc q.1 q.2)
    have h2 := length_putK acc q.1 q.2
    show (mergeT (putK acc q.1 q.2) rest).length ≤ _
    rw [List.length_cons]
    omega
section
variable {X : Cx}
def PairT (H : Hp) (b : Addr) (q : List Key × V) : Prop := ∃ kb : Addr, H b = some (.tup [.ref kb, q.2]) ∧ H kb = some (.tup (q.1.map kV))
theorem pairT_is {pins : List (Addr × Obj)} {σ : L2.St} {H : Hp} {s : Shared} {b : Addr} {q : List Key × V} (I : L2.Inv X pins σ H s) (h : PairT H b q) : ∃ (kb : Addr) (u : Value), IsTup s.heap b #[.ref kb, u] ∧ RelV q.2 u ∧ H kb = some (.tup (q.1.map kV)) := by
  obtain ⟨kb, h1, h2⟩ := h
  obtain ⟨_, its, r, o, ho, hc, n, hd⟩ := I.hok b _ h1
  obtain ⟨w1, w2, rfl, r1, r2⟩ := vals2 r
  cases r1
  exact ⟨kb, w2, ⟨o, ho, hc, n, hd⟩, r2, h2⟩
theorem updT_loop {A : Around} {R : Result → Shared → Prop} {pins : List (Addr × Obj)} {σ : L2.St} {H : Hp} {S Ia l : Addr} {items : Array Value} {res : Value} (hu : A.units + 1 < cLine) (hh : A.handled = none) (hS : H S = none) (nlI : l ≠ Ia) (nSI : S ≠ Ia) (nSl : S ≠ l) :
    ∀ (rest : List (List Key × V)) (i : Nat) (acc : List (List Key × V)) (ix : Int) (t : Tok) (s : Shared), items.size = i + rest.length → acc.length + rest.length ≤ sizeLine →
      (∀ (j : Nat) (q : List Key × V), rest[j]? = some q → ∃ b : Addr, items[i + j]? = some (.ref b) ∧ PairT H b q) →
      L2.Inv X pins σ (upd H S (.dT acc)) s → FpOk X pins H Ia → s.heap.IsListIter Ia l i → s.heap.IsList l items →
      (∀ s', L2.Inv X pins σ (upd H S (.dT (mergeT acc rest))) s' → R (.ok (.ret res)) s') →
      codeAny (model X.prog X.w) A (.builtin "dict.update.loop" ⟨[.ref S, .ref Ia, .int ix t, res], []⟩) R s := by
  intro rest
  induction rest with
  | nil =>
    intro i acc ix t s hsz hln hat I f hit hl hR
    refine codeAny_builtin ud_entry ?_
    rw [Around.under_plainId ud_plain _]
    show wpAny _ A.in1 (pyNext (.ref Ia) >>= _) _ _ s
    have hnone : items[i]? = none := Array.getElem?_eq_none (by rw [hsz, List.length_nil]; exact Nat.le_refl _)
    refine wpAny_bind (wpAny_pyNext_list_end (A := A.in1) hh hit hl hnone fun h' he => ?_)
    refine wpAny_bind (m := Builtin.Dict.addKeywords S []) (wpAny_pure (wpAny_pure ?_))
    obtain ⟨f0, f1, f2, f3, f4, f5⟩ := f
    exact hR _ (I.turned (t' := s.toks) (fun b o hb e => he b o hb e) (by rw [upd_ne (Ne.symm nSI)]; exact f0) f1 f3 f4 f5)
  | cons q rest ih =>
    intro i acc ix t s hsz hln hat I f hit hl hR
    obtain ⟨b, hb, hpair⟩ := hat 0 q rfl
    rw [List.length_cons] at hsz hln
    have upS : ∀ {a : Addr} {u : HO}, H a = some u → a ≠ S := fun e z => by
      rw [z, hS] at e
      cases e
    have hpair' : PairT (upd H S (.dT acc)) b q := by
      obtain ⟨kb, h1, h2⟩ := hpair
      exact ⟨kb, by rw [upd_ne (upS h1)]; exact h1, by rw [upd_ne (upS h2)]; exact h2⟩
    obtain ⟨f0, f1, f2, f3, f4, f5⟩ := id f
    refine codeAny_builtin ud_entry ?_
    rw [Around.under_plainId ud_plain _]
    show wpAny _ A.in1 (pyNext (.ref Ia) >>= _) _ _ s
    refine wpAny_bind (wpAny_pyNext_list_item (x := .ref b) hit hl (by simpa using hb) fun h1 hit1 sb1 => ?_)
    have I1 : L2.Inv X pins σ (upd H S (.dT acc)) { s with heap := h1 } := I.turned (t' := s.toks) (fun b o hb e => (sb1.2 b hb).trans e) (by rw [upd_ne (Ne.symm nSI)]; exact f0) f1 f3 f4 f5
    have hl1 : h1.IsList l items := hl.extBut sb1.extBut nlI
    obtain ⟨kb, u, ht1, ru, hkb⟩ := pairT_is I1 hpair'
    obtain ⟨o, ho, hc, n, hd⟩ := id ht1
    refine wpAny_bind (wpAny_holding (wpAny_bind (wpAny_tryCatch ?_)))
    unfold Builtin.Dict.pairItems
    refine wpAny_bind (wpAny_typeOf (T := "tuple") ⟨o, ho, hc⟩ ?_)
    rw [if_pos (by decide)]
    refine wpAny_bind (wpAny_seqItems ho hd (wpAny_pure ?_))
    show wpAny _ A.in1 (holding [.ref kb, u] (dictSet S (.ref kb) u)) _ _ _
    obtain ⟨z, hsys, xs, rel, dd⟩ := dt_of I1.hok (upd_same : (upd H S (HO.dT acc)) S = _)
    have c1 : xs.length ≤ sizeLine := by rw [← Paired.length rel]; exact z
    have c2 := length_putK acc q.1 q.2
    refine wpAny_holding (wpAny_dictSet_heap (hsz := c1) (show A.units + 1 < cLine from hu) (key_of I1.hok hkb) dd fun h2 dd2 sb2 => ?_)
    obtain ⟨od, es, ep, k1, k2, k3, k4, _, k6⟩ := dd2
    have e2 : upd (upd H S (.dT acc)) S (.dT (putK acc q.1 q.2)) = upd H S (.dT (putK acc q.1 q.2)) := by
      funext a
      by_cases ha : a = S
      · rw [ha, upd_same, upd_same]
      · rw [upd_ne ha, upd_ne ha, upd_ne ha]
    have I2 : L2.Inv X pins σ (upd H S (.dT (putK acc q.1 q.2))) { s with heap := h2, toks := s.toks + (tupleKind (mixKind X.prog X.w)).draws q.1 } := by
      rw [← e2]
      refine d_write (s := { s with heap := h1 }) I1 (by rw [upd_same]; exact True.intro) sb2 ⟨od, k1⟩ ⟨by omega, hsys, _, (rel.put q.1 hkb ru).keeps fun c ys ec => ?_, od, es, ep, k1, k2, k3, k4, k6⟩
      rw [upd_ne (fun zz => by subst zz; rw [upd_same] at ec; cases ec)]
      exact ec
    refine wpAny_pure ⟨plainId_quiet ud_plain _, ih (i + 1) (putK acc q.1 q.2) (ix + 1) 0 _ (by omega) (by omega) (fun j q' e => ?_) I2 f (hit1.at fun o' e => (sb2.2 Ia (Ne.symm nSI)).trans e) (hl1.extBut sb2.extBut (Ne.symm nSl)) hR⟩
    obtain ⟨b', h1', h2'⟩ := hat (j + 1) q' (by simpa using e)
    exact ⟨b', by rw [show i + 1 + j = i + (j + 1) by omega]; exact h1', h2'⟩
def rDictT (K : Fg) : List V → Hp → VK → Prop := fun xs H Q => ∃ (a : Addr) (ps : List Addr) (kvs : List (List Key × V)), xs = [.ref a] ∧ SqL K H a (ps.map V.ref) ∧ Paired (PairT H) ps kvs ∧ ∀ p, H p = none → Q (.ref p) (upd H p (.dT (mergeT [] kvs)))
theorem call_dictPT (hcalm : X.calm = true) (hu : X.A.units + 2 < cLine) : CallR X (.type "dict") (rDictT X.K) := by
  intro pins s σ H xs us Q I r h
  obtain ⟨a, ps, kvs, rfl, hq, hp, q⟩ := h
  obtain ⟨u, rfl, rx⟩ := r.one
  cases rx
  obtain ⟨its, rv, pl, hz⟩ := I.list hq
  have ei := refs_at rv
  subst ei
  rw [List.length_map] at hz
  have hpl : ps.length = kvs.length := Paired.length hp
  obtain ⟨ol, n, hol, hc, hd, hdat⟩ := pl
  have hS0 : H s.heap.objs.size = none := I.hok.fresh (Nat.le_refl _)
  have I1 : L2.Inv X pins σ (upd H s.heap.objs.size (.dT [])) { s with heap := s.heap.push { cls := .type "dict", data := .dict #[] } } :=
    I.laid (t' := s.toks) (fun _ _ q => Heap.get?_push_of_some _ q) (Nat.le_refl _) (dt_empty s.heap I.big)
  refine callType_codes (Q₁ := fun obj s₁ => obj = .ref s.heap.objs.size ∧ s₁ = { s with heap := s.heap.push { cls := .type "dict", data := .dict #[] } }) PySem.F.kt_called_dict (PySem.F.kt_typeCall_dict_1 _) PySem.F.entry_dict_init (kt_code_dict_new _ ⟨rfl, rfl⟩) ?_
  rintro obj t1 ⟨rfl, rfl⟩
  have hnew : (s.heap.push { cls := .type "dict", data := .dict #[] }).get? s.heap.objs.size = some { cls := .type "dict", data := .dict #[] } := Heap.get?_push_size _ rfl
  have ty : Shared.TypeIs { s with heap := s.heap.push { cls := .type "dict", data := .dict #[] } } (.ref s.heap.objs.size) "dict" := ⟨_, hnew, rfl⟩
  refine ⟨ty, PySem.F.args_dict_init_2 _ _, ?_⟩
  unfold Builtin.«dict.__init__»
  refine wpAny_bind ?_
  unfold Builtin.Dict.selfAndRest
  refine wpAny_bind (wpAny_notOrdered_dict ty ?_)
  refine wpAny_pure ?_
  show wpAny _ _ (Builtin.Dict.updateFrom "dict.__init__" s.heap.objs.size (.ref a) [] .none) _ _ _
  unfold Builtin.Dict.updateFrom
  have hol1 := Heap.get?_push_of_some { cls := .type "dict", data := .dict #[] } hol
  refine wpAny_bind (wpAny_typeOf (T := "list") ⟨ol, hol1, hc⟩ ?_)
  rw [if_pos (by decide)]
  refine wpAny_bind (miss_list hol1 hc hdat hd (I.ok.hd hcalm) fun h1 tk1 hk1 => ?_)
  rw [if_pos (by rfl)]
  refine wpAny_bind (wpAny_rule ?_)
  have I2 : L2.Inv X pins σ (upd H s.heap.objs.size (.dT [])) { s with heap := h1, toks := tk1 } := I1.kept hk1
  have hl1 : h1.IsList a (ps.map Value.ref).toArray := ⟨ol, hk1 _ _ hol1, hc, n, hdat⟩
  refine wpAny_bind (wpAny_pyIter_list hl1 ?_)
  have I3 : L2.Inv X pins σ (upd H s.heap.objs.size (.dT [])) { s with heap := h1.push { cls := .type "list_iterator", data := .fields #[.ref a, .int 0 0] }, toks := tk1 } := I2.kept fun b o e => Heap.get?_push_of_some _ e
  have hS1 : s.heap.objs.size < h1.objs.size := Heap.lt_size (hk1 _ _ hnew)
  have ha : a < s.heap.objs.size := Heap.lt_size hol
  have hfz : H h1.objs.size = none := I.hok.fresh (Nat.le_of_lt hS1)
  have hfz2 : (upd H s.heap.objs.size (.dT [])) h1.objs.size = none := by rw [upd_ne (Nat.ne_of_gt hS1)]; exact hfz
  have f3 := I2.fpOk (b := h1.objs.size) (Nat.le_refl _) hfz2
  have f4 : FpOk X pins H h1.objs.size := ⟨hfz, f3.2⟩
  have key := updT_loop (X := X) (A := X.A.in1) (R := wants (fun r t2 => r = .none ∧ EP X pins σ Q (.ref s.heap.objs.size) t2) X.xe) (S := s.heap.objs.size) (Ia := h1.objs.size) (l := a) (items := (ps.map Value.ref).toArray) (res := Value.none)
    (show X.A.units + 1 + 1 < cLine by omega) (I.ok.hd hcalm) hS0 (Nat.ne_of_lt (Nat.lt_trans ha hS1)) (Nat.ne_of_lt hS1) (Nat.ne_of_gt ha) kvs 0 [] 0 0
    { s with heap := h1.push { cls := .type "list_iterator", data := .fields #[.ref a, .int 0 0] }, toks := tk1 } (by rw [List.size_toArray, List.length_map, hpl, Nat.zero_add]) (by rw [List.length_nil, Nat.zero_add, ← hpl]; exact hz)
    (fun j q' e => by
      have : j < kvs.length := (List.getElem?_eq_some_iff.mp e).1
      have hj : ps[j]? = some ps[j] := List.getElem?_eq_getElem (by omega)
      obtain ⟨q2, e2, hq2⟩ := paired_get hp hj
      rw [e] at e2
      cases e2
      refine ⟨ps[j], ?_, hq2⟩
      rw [Nat.zero_add, List.getElem?_toArray, List.getElem?_map, hj]
      rfl)
    I3 f4 ⟨_, Heap.get?_push_size _ rfl, rfl, rfl⟩ (hl1.at fun o e => Heap.get?_push_of_some _ e) (fun s' I' => ⟨rfl, .ref s.heap.objs.size, _, I', rfl, q _ hS0⟩)
  first
    | exact wpAny_pure ⟨plainId_quiet ud_plain _, key⟩
    | exact wpAny_bind (wpAny_pure (wpAny_pure ⟨plainId_quiet ud_plain _, key⟩))
end
end EE
set_option Elab.async false
set_option linter.all false
set_option maxRecDepth 100000
set_option maxHeartbeats 1000000
namespace EE
open PySem PySem.Spec PyProof.Rows L2
def dfoldT : List (EV × EV) → List EV → Option (List (EV × EV))
  | acc, [] => some acc
  | acc, y :: r => match y with
    | .tup [k, v] => match dputE true acc k v with
      | some acc' => dfoldT acc' r
      | none => none
    | _ => none
def fDictT : DL := fun xs h => match xs with
  | [.ref n] => match lstAt h n with
    | some ys => match dfoldT [] ys with
      | some kvs => .ok (.ref h.length) (h ++ [.dic true kvs])
      | none => .no
    | none => .no
  | _ => .no
theorem dfoldT_ok {K : Fg} {ρ : Rho} {H : Hp} : ∀ {ys : List EV} {acc out : List (EV × EV)} {la : List (List Key × V)} {vs : List V}, KR tkeyOf (VR K ρ H) acc la → VRs K ρ H ys vs → dfoldT acc ys = some out →
    ∃ (ps : List Addr) (kvs : List (List Key × V)), vs = ps.map V.ref ∧ Paired (PairT H) ps kvs ∧ KR tkeyOf (VR K ρ H) out (mergeT la kvs)
  | [], acc, out, la, vs, hk, hv, h => by
    cases h
    rw [vrs_nil.mp hv]
    exact ⟨[], [], rfl, .nil, hk⟩
  | y :: r, acc, out, la, vs, hk, hv, h => by
    obtain ⟨v, vr, rfl, hv1, hv2⟩ := vrs_cons.mp hv
    unfold dfoldT at h
    split at h
    · rename_i k x
      split at h
      · rename_i acc' e1
        obtain ⟨kk, e2, e3⟩ := Option.map_eq_some_iff.mp e1
        subst e3
        obtain ⟨a, ws, rfl, hb, hw⟩ := vr_tup.mp hv1
        obtain ⟨w1, w2, rfl, h1, h2⟩ := vrs_two hw
        obtain ⟨kb, rfl, hkb⟩ := tkeyOf_eq e2 h1
        obtain ⟨ps, kvs, q1, q2, q3⟩ := dfoldT_ok (hk.put e2 h2) hv2 h
        exact ⟨a :: ps, (kk, w2) :: kvs, by rw [q1]; rfl, .cons ⟨kb, hb, hkb⟩ q2, q3⟩
      · cases h
    · cases h
section
variable {X : Cx} {ct : Nat → Addr × List Str} {E : XK} {G : Gx}
theorem c_dictT (hc : X.calm = true) (hu : X.A.units + 2 < cLine) : Cld X ct E (.type "dict") fDictT := ⟨_, call_dictPT hc hu, fun ρ H eh xs as Q hr hx h => by
  unfold fDictT at h
  split at h
  · rename_i n
    split at h
    · rename_i ys e1
      split at h
      · rename_i kvs e2
        obtain ⟨v, rfl, hv⟩ := vrs_one hx
        obtain ⟨a, vs, g1, g2, g3⟩ := lst_of hr e1
        obtain ⟨a', q1, rfl⟩ := vr_ref.mp hv
        rw [g1] at q1; cases q1
        obtain ⟨ps, l, rfl, k2, k3⟩ := dfoldT_ok (acc := []) (la := []) (K := X.K) (ρ := ρ) (H := H) rfl g3 e2
        refine ⟨a, ps, l, rfl, g2, k2, fun p hp => ?_⟩
        exact h (ρ ++ [(true, p)]) _ _ (Ext.alloc _ hp) (hr.alloc (o := .dic true kvs) hp rfl ⟨_, upd_same, _, rfl, k3.mono fun x v => VR.mono (Ext.alloc _ hp) x v⟩) (vr_ref.mpr ⟨p, last_get hr.len, rfl⟩)
      · exact h.elim
    · exact h.elim
  · exact h.elim⟩
def dTru (a : DE) : DT := fun es h => (a es h).bind fun x h1 => match x with
  | .tup xs => .ok (!xs.isEmpty) h1
  | .bl b => .ok b h1
  | .non => .ok false h1
  | .int i => .ok (i != 0) h1
  | .ref n => match lstAt h1 n with
    | some xs => .ok (!xs.isEmpty) h1
    | none => match mdicAt h1 n with
      | some (false, kvs) => .ok (!kvs.isEmpty) h1
      | _ => .no
  | _ => .no
theorem vrs_empty {K : Fg} {ρ : Rho} {H : Hp} : ∀ {xs : List EV} {vs : List V}, VRs K ρ H xs vs → xs.isEmpty = vs.isEmpty
  | [], vs, h => by rw [vrs_nil.mp h]; rfl
  | x :: xs, vs, h => by
    obtain ⟨v, r, rfl, _, _⟩ := vrs_cons.mp h
    rfl
variable {a : Expr} {d : DE}
theorem xt_tru (h : PEd X ct E a d) (he : ∀ whole, isTrue a X.env whole = (do let v ← whole; standAt a.pos; holding [v] (truthy v)) := by intro _; rfl) : PTd X ct E a (dTru d) := by
  obtain ⟨t, h1, h2⟩ := h
  refine ⟨_, pt_truth h1 he, fun ρ σ H es eh Q rel hw => ?_⟩
  refine h2.bind rel hw fun ρ1 H1 x eh1 u e1 rel1 v1 h1 => ?_
  cases x with
  | tup xs =>
    obtain ⟨p, vs, rfl, g2, g3⟩ := vr_tup.mp v1
    exact ⟨_, .inr (.inl ⟨vs, SqT.of g2, rfl⟩), h1 ρ1 H1 _ (Ext.refl _ _ _) rel1.hr (congrArg not (vrs_empty g3))⟩
  | bl b => rw [vr_bl.mp v1]; exact ⟨b, rfl, h1 ρ1 H1 _ (Ext.refl _ _ _) rel1.hr rfl⟩
  | non => rw [vr_non.mp v1]; exact ⟨false, rfl, h1 ρ1 H1 _ (Ext.refl _ _ _) rel1.hr rfl⟩
  | int i => rw [vr_int.mp v1]; exact ⟨_, rfl, h1 ρ1 H1 _ (Ext.refl _ _ _) rel1.hr rfl⟩
  | ref n =>
    simp only at h1
    split at h1
    · rename_i xs e2
      obtain ⟨a1, vs, g1, g2, g3⟩ := lst_of rel1.hr e2
      obtain ⟨a', q1, rfl⟩ := vr_ref.mp v1
      rw [g1] at q1; cases q1
      exact ⟨_, .inl ⟨vs, g2, rfl⟩, h1 ρ1 H1 _ (Ext.refl _ _ _) rel1.hr (congrArg not (vrs_empty g3))⟩
    · split at h1
      · rename_i kvs e2
        obtain ⟨a1, u, g1, g2, g3, _⟩ := mdic_of rel1.hr e2
        obtain ⟨a', q1, rfl⟩ := vr_ref.mp v1
        rw [g1] at q1; cases q1
        obtain ⟨l, rfl, hk⟩ := g3
        refine ⟨_, .inr (.inr ⟨l, g2, rfl⟩), h1 ρ1 H1 _ (Ext.refl _ _ _) rel1.hr (congrArg not ?_)⟩
        have := hk.len
        cases kvs <;> cases l <;> simp_all
      · exact h1.elim
  | _ => exact h1.elim
end
theorem hu1 {k : Nat} {A : Around} (hr : Room k A) : A.units + 1 < cLine := by have := hr.un; omega
theorem hu2 {k : Nat} {A : Around} (hr : Room k A) : A.units + 2 < cLine := by have := hr.un; omega
def spAny (K : Fg) (f : DL) : Sp := fun vs H Q E => ∀ ct : Nat → Addr × List Str, spD0 ⟨K, ct⟩ f vs H Q E
theorem _root_.L2.FnOk.any {P : Program} {w : World} {K : Fg} {mg : Str → Option Value} {base : Heap} {k : Nat} {f : Addr} {fd : FuncData} {ps : List Str} {fn : DL} {ct : Nat → Addr × List Str} (F : FnOk P w K mg base CX0 k f fd ps (spD0 ⟨K, ct⟩ fn)) : FnOk P w K mg base CX0 k f fd ps (spAny K fn) :=
  ⟨fun vs H Q E h => F.len vs H Q E (h ct), fun A outer s H args us vs Q E h1 h2 h3 h4 h => F.run A outer s H args us vs Q E h1 h2 h3 h4 (h ct)⟩
theorem law_spA {K : Fg} {fn : DL} (hl : LawOk fn) {H : Hp} {a : Addr} {ns : List Int} (hn : ns.length ≤ 63) (hO : Only H) (hS : SqL K H a (ns.map V.int)) : spAny K fn [.ref a] H (fun v _ => v = .bl true) E0 := fun ct => law_sp hl hn hO hS
end EE
set_option Elab.async false
set_option linter.all false
set_option maxRecDepth 100000
set_option maxHeartbeats 1000000
namespace EE
open PySem L2
def Tri {α : Type} (r : Res α) (Q : α → EH → Prop) : Prop := match r with
  | .ok v h => Q v h
  | .er _ _ => False
  | .no => False
@[simp] theorem tri_ok {α : Type} (v : α) (h : EH) (Q : α → EH → Prop) : Tri (.ok v h) Q ↔ Q v h := Iff.rfl
@[simp] theorem tri_no {α : Type} (Q : α → EH → Prop) : Tri (.no) Q ↔ False := Iff.rfl
@[simp] theorem tri_er {α : Type} (x : Exn) (h : EH) (Q : α → EH → Prop) : Tri (.er x h) Q ↔ False := Iff.rfl
@[simp] theorem tri_noer {α : Type} (r : Res α) (Q : α → EH → Prop) : Tri r.noer Q ↔ Tri r Q := by cases r <;> rfl
theorem tri_bind {α β : Type} (r : Res α) (k : α → EH → Res β) (Q : β → EH → Prop) : Tri (r.bind k) Q ↔ Tri r (fun v h => Tri (k v h) Q) := by cases r <;> rfl
theorem Tri.mono {α : Type} {r : Res α} {Q Q' : α → EH → Prop} (h : Tri r Q) (hq : ∀ v h, Q v h → Q' v h) : Tri r Q' := by
  cases r with
  | ok v h' => exact hq v h' h
  | er _ _ => exact h
  | no => exact h
theorem Tri.bind {α β : Type} {r : Res α} {k : α → EH → Res β} {Q : β → EH → Prop} {P : α → EH → Prop} (h : Tri r P) (hq : ∀ v h, P v h → Tri (k v h) Q) : Tri (r.bind k) Q := by
  rw [tri_bind]
  exact h.mono hq
theorem Tri.ex {α : Type} {r : Res α} {Q : α → EH → Prop} (h : Tri r Q) : ∃ v h', r = .ok v h' ∧ Q v h' := by
  cases r with
  | ok v h' => exact ⟨v, h', rfl, h⟩
  | er _ _ => exact h.elim
  | no => exact h.elim
section
variable (es : ES) (h : EH)
def gV (o : Option (Option EV)) (h : EH) : Res EV := match o with
  | some (some v) => .ok v h
  | _ => .no
@[simp] theorem gV_some (v : EV) : gV (some (some v)) h = .ok v h := rfl
@[simp] theorem ap_var (i : Nat) : dVar i es h = gV es[i]? h := rfl
@[simp] theorem ap_c (v : EV) : dC v es h = .ok v h := rfl
def kOp2 (f : D2) (x : EV) : EV → EH → Res EV := fun y h => f x y h
def kOp (f : D2) (b : DE) (es : ES) : EV → EH → Res EV := fun x h => (b es h).bind (kOp2 f x)
@[simp] theorem ap_op (f : D2) (a b : DE) : dOp f a b es h = (a es h).bind (kOp f b es) := rfl
@[simp] theorem ap_kOp (f : D2) (b : DE) (x : EV) : kOp f b es x h = (b es h).bind (kOp2 f x) := rfl
@[simp] theorem ap_kOp2 (f : D2) (x y : EV) : kOp2 f x y h = f x y h := rfl
@[simp] theorem ap_un (f : D1) (a : DE) : dUn f a es h = (a es h).bind f := rfl
@[simp] theorem ap_nil : dNil es h = .ok [] h := rfl
def kCons2 (x : EV) : List EV → EH → Res (List EV) := fun xs h => .ok (x :: xs) h
def kCons (r : DA) (es : ES) : EV → EH → Res (List EV) := fun x h => (r es h).bind (kCons2 x)
@[simp] theorem ap_cons (a : DE) (r : DA) : dCons a r es h = (a es h).bind (kCons r es) := rfl
@[simp] theorem ap_kCons (r : DA) (x : EV) : kCons r es x h = (r es h).bind (kCons2 x) := rfl
@[simp] theorem ap_kCons2 (x : EV) (xs : List EV) : kCons2 x xs h = .ok (x :: xs) h := rfl
@[simp] theorem ap_cb (f : DL) (a : DA) : dCB f a es h = (a es h).bind f := rfl
def kCall (f : DL) : List EV → EH → Res EV := fun xs h => (f xs h).noer
@[simp] theorem ap_call (f : DL) (a : DA) : dCall f a es h = (a es h).bind (kCall f) := rfl
@[simp] theorem ap_kCall (f : DL) (xs : List EV) : kCall f xs h = (f xs h).noer := rfl
def kTup : List EV → EH → Res EV := fun xs h => if xs.length ≤ 100000 then .ok (.tup xs) h else .no
@[simp] theorem ap_tup (a : DA) : dTup a es h = (a es h).bind kTup := rfl
@[simp] theorem ap_kTup (xs : List EV) : kTup xs h = if xs.length ≤ 100000 then .ok (.tup xs) h else .no := rfl
def kLst : List EV → EH → Res EV := fun xs h => if xs.length ≤ 100000 then .ok (.ref h.length) (h ++ [.lst xs]) else .no
@[simp] theorem ap_lst (a : DA) : dLst a es h = (a es h).bind kLst := rfl
@[simp] theorem ap_kLst (xs : List EV) : kLst xs h = if xs.length ≤ 100000 then .ok (.ref h.length) (h ++ [.lst xs]) else .no := rfl
def kB : EV → EH → Res Bool := fun x h => match x with
  | .bl b => .ok b h
  | _ => .no
@[simp] theorem ap_B (a : DE) : dB a es h = (a es h).bind kB := rfl
@[simp] theorem ap_kB (b : Bool) : kB (.bl b) h = .ok b h := rfl
def kAnd (b : DT) (es : ES) : Bool → EH → Res Bool := fun c h => if c = true then b es h else .ok false h
@[simp] theorem ap_and (a b : DT) : dAnd a b es h = (a es h).bind (kAnd b es) := rfl
@[simp] theorem ap_kAnd (b : DT) (c : Bool) : kAnd b es c h = if c = true then b es h else .ok false h := rfl
def kOr (b : DT) (es : ES) : Bool → EH → Res Bool := fun c h => if c = true then .ok true h else b es h
@[simp] theorem ap_or (a b : DT) : dOr a b es h = (a es h).bind (kOr b es) := rfl
@[simp] theorem ap_kOr (b : DT) (c : Bool) : kOr b es c h = if c = true then .ok true h else b es h := rfl
def kNot : Bool → EH → Res Bool := fun c h => .ok (!c) h
@[simp] theorem ap_not (a : DT) : dNot a es h = (a es h).bind kNot := rfl
@[simp] theorem ap_kNot (c : Bool) : kNot c h = .ok (!c) h := rfl
def kAndV (b : DE) (es : ES) : EV → EH → Res EV := fun x h => match x with
  | .bl c => if c = true then b es h else .ok (.bl false) h
  | _ => .no
@[simp] theorem ap_andV (a b : DE) : dAndV a b es h = (a es h).bind (kAndV b es) := rfl
@[simp] theorem ap_kAndV (b : DE) (c : Bool) : kAndV b es (.bl c) h = if c = true then b es h else .ok (.bl false) h := rfl
def kOrV (b : DE) (es : ES) : EV → EH → Res EV := fun x h => match x with
  | .bl c => if c = true then .ok (.bl true) h else b es h
  | _ => .no
@[simp] theorem ap_orV (a b : DE) : dOrV a b es h = (a es h).bind (kOrV b es) := rfl
@[simp] theorem ap_kOrV (b : DE) (c : Bool) : kOrV b es (.bl c) h = if c = true then .ok (.bl true) h else b es h := rfl
def kNotV : EV → EH → Res EV := fun x h => match x with
  | .bl c => .ok (.bl (!c)) h
  | _ => .no
@[simp] theorem ap_notV (a : DE) : dNotV a es h = (a es h).bind kNotV := rfl
@[simp] theorem ap_kNotV (c : Bool) : kNotV (.bl c) h = .ok (.bl (!c)) h := rfl
def kIf (a b : DE) (es : ES) : Bool → EH → Res EV := fun c h => if c = true then a es h else b es h
@[simp] theorem ap_if (t : DT) (a b : DE) : dIf t a b es h = (t es h).bind (kIf a b es) := rfl
@[simp] theorem ap_kIf (a b : DE) (c : Bool) : kIf a b es c h = if c = true then a es h else b es h := rfl
def kCh3 (g : D2) (y : EV) : EV → EH → Res EV := fun w h => g y w h
def kCh2 (g : D2) (c : DE) (es : ES) (y : EV) : EV → EH → Res EV := fun z h => match z with
  | .bl k => if k = true then (c es h).bind (kCh3 g y) else .ok (.bl false) h
  | _ => .no
def kCh1 (f g : D2) (c : DE) (es : ES) (x : EV) : EV → EH → Res EV := fun y h => (f x y h).bind (kCh2 g c es y)
def kCh (f g : D2) (b c : DE) (es : ES) : EV → EH → Res EV := fun x h => (b es h).bind (kCh1 f g c es x)
@[simp] theorem ap_chain (f g : D2) (a b c : DE) : dChain f g a b c es h = (a es h).bind (kCh f g b c es) := rfl
@[simp] theorem ap_kCh (f g : D2) (b c : DE) (x : EV) : kCh f g b c es x h = (b es h).bind (kCh1 f g c es x) := rfl
@[simp] theorem ap_kCh1 (f g : D2) (c : DE) (x y : EV) : kCh1 f g c es x y h = (f x y h).bind (kCh2 g c es y) := rfl
@[simp] theorem ap_kCh2 (g : D2) (c : DE) (y : EV) (k : Bool) : kCh2 g c es y (.bl k) h = if k = true then (c es h).bind (kCh3 g y) else .ok (.bl false) h := rfl
@[simp] theorem ap_kCh3 (g : D2) (y w : EV) : kCh3 g y w h = g y w h := rfl
def kIsi (c : Ty) : EV → EH → Res EV := fun x h => match tyOf h x with
  | some t => .ok (.bl (t.isa c)) h
  | none => .no
@[simp] theorem ap_isi (c : Ty) (a : DE) : fIsi c a es h = (a es h).bind (kIsi c) := rfl
def kIsi2 (c c' : Ty) : EV → EH → Res EV := fun x h => match tyOf h x with
  | some t => .ok (.bl (t.isa c || t.isa c')) h
  | none => .no
@[simp] theorem ap_isi2 (c c' : Ty) (a : DE) : fIsi2 c c' a es h = (a es h).bind (kIsi2 c c') := rfl
@[simp] theorem kIsi_int (c : Ty) (i : Int) : kIsi c (.int i) h = .ok (.bl (Ty.isa .int_ c)) h := rfl
@[simp] theorem kIsi_bl (c : Ty) (i : Bool) : kIsi c (.bl i) h = .ok (.bl (Ty.isa .bool_ c)) h := rfl
@[simp] theorem kIsi_str (c : Ty) (i : Str) : kIsi c (.str i) h = .ok (.bl (Ty.isa .str_ c)) h := rfl
@[simp] theorem kIsi_non (c : Ty) : kIsi c .non h = .ok (.bl (Ty.isa .none_ c)) h := rfl
@[simp] theorem kIsi_tup (c : Ty) (xs : List EV) : kIsi c (.tup xs) h = .ok (.bl (Ty.isa .tuple_ c)) h := rfl
@[simp] theorem kIsi2_int (c c' : Ty) (i : Int) : kIsi2 c c' (.int i) h = .ok (.bl (Ty.isa .int_ c || Ty.isa .int_ c')) h := rfl
@[simp] theorem kIsi2_bl (c c' : Ty) (i : Bool) : kIsi2 c c' (.bl i) h = .ok (.bl (Ty.isa .bool_ c || Ty.isa .bool_ c')) h := rfl
@[simp] theorem kIsi2_str (c c' : Ty) (i : Str) : kIsi2 c c' (.str i) h = .ok (.bl (Ty.isa .str_ c || Ty.isa .str_ c')) h := rfl
@[simp] theorem kIsi2_non (c c' : Ty) : kIsi2 c c' .non h = .ok (.bl (Ty.isa .none_ c || Ty.isa .none_ c')) h := rfl
@[simp] theorem kIsi2_tup (c c' : Ty) (xs : List EV) : kIsi2 c c' (.tup xs) h = .ok (.bl (Ty.isa .tuple_ c || Ty.isa .tuple_ c')) h := rfl
theorem kIsi_lst {h : EH} (c : Ty) {n : Nat} {xs : List EV} (e : lstAt h n = some xs) : kIsi c (.ref n) h = .ok (.bl (Ty.isa .list_ c)) h := by
  unfold lstAt at e
  unfold kIsi
  simp only [tyOf]
  split at e <;> simp_all
theorem kIsi2_lst {h : EH} (c c' : Ty) {n : Nat} {xs : List EV} (e : lstAt h n = some xs) : kIsi2 c c' (.ref n) h = .ok (.bl (Ty.isa .list_ c || Ty.isa .list_ c')) h := by
  unfold lstAt at e
  unfold kIsi2
  simp only [tyOf]
  split at e <;> simp_all
@[simp] theorem ap_next : dNext es h = .ok (.nx es) h := rfl
def kSeq (b : DS) : Flw → EH → Res Flw := fun f h1 => match f with
  | .nx es1 => b es1 h1
  | .rt v => .ok (.rt v) h1
  | .bk e => .ok (.bk e) h1
  | .ct e => .ok (.ct e) h1
@[simp] theorem ap_seq (a b : DS) : dSeq a b es h = (a es h).bind (kSeq b) := rfl
@[simp] theorem kSeq_nx (b : DS) : kSeq b (.nx es) h = b es h := rfl
@[simp] theorem kSeq_rt (b : DS) (v : EV) : kSeq b (.rt v) h = .ok (.rt v) h := rfl
@[simp] theorem kSeq_bk (b : DS) : kSeq b (.bk es) h = .ok (.bk es) h := rfl
@[simp] theorem kSeq_ct (b : DS) : kSeq b (.ct es) h = .ok (.ct es) h := rfl
def kIfS (a b : DS) (es : ES) : Bool → EH → Res Flw := fun c h => if c = true then a es h else b es h
@[simp] theorem ap_ifS (t : DT) (a b : DS) : dIfS t a b es h = (t es h).bind (kIfS a b es) := rfl
@[simp] theorem ap_kIfS (a b : DS) (c : Bool) : kIfS a b es c h = if c = true then a es h else b es h := rfl
def kRet : EV → EH → Res Flw := fun x h => .ok (.rt x) h
@[simp] theorem ap_ret (a : DE) : dRet a es h = (a es h).bind kRet := rfl
@[simp] theorem ap_kRet (x : EV) : kRet x h = .ok (.rt x) h := rfl
@[simp] theorem ap_retN : dRetN es h = .ok (.rt .non) h := rfl
def kDrop (es : ES) : EV → EH → Res Flw := fun _ h => .ok (.nx es) h
@[simp] theorem ap_drop (a : DE) : dDrop a es h = (a es h).bind (kDrop es) := rfl
@[simp] theorem ap_kDrop (x : EV) : kDrop es x h = .ok (.nx es) h := rfl
@[simp] theorem ap_break : dBreak es h = .ok (.bk es) h := rfl
@[simp] theorem ap_cont : dCont es h = .ok (.ct es) h := rfl
@[simp] theorem ap_name (i : Nat) (x : EV) : dName i x es h = .ok (es.set i (some x)) h := rfl
@[simp] theorem ap_gnil : dGNil [] es h = .ok es h := rfl
def kG (r : DGs) (xs : List EV) : ES → EH → Res ES := fun es h => r xs es h
@[simp] theorem ap_gcons (g : DG) (r : DGs) (x : EV) (xs : List EV) : dGCons g r (x :: xs) es h = (g x es h).bind (kG r xs) := rfl
@[simp] theorem ap_kG (r : DGs) (xs : List EV) : kG r xs es h = r xs es h := rfl
@[simp] theorem ap_gtup (n : Nat) (r : DGs) (xs : List EV) : dGTup n r (.tup xs) es h = if xs.length = n then r xs es h else .no := rfl
def kGS3 (es : ES) : Unit → EH → Res ES := fun _ h => .ok es h
def kGS2 (f : DSet) (x o : EV) (es : ES) : EV → EH → Res ES := fun i h => (f o i x h).bind (kGS3 es)
def kGS (b : DE) (f : DSet) (x : EV) (es : ES) : EV → EH → Res ES := fun o h => (b es h).bind (kGS2 f x o es)
@[simp] theorem ap_gsub (a b : DE) (f : DSet) (x : EV) : dGSub a b f x es h = (a es h).bind (kGS b f x es) := rfl
@[simp] theorem ap_kGS (b : DE) (f : DSet) (x o : EV) : kGS b f x es o h = (b es h).bind (kGS2 f x o es) := rfl
@[simp] theorem ap_kGS2 (f : DSet) (x o i : EV) : kGS2 f x o es i h = (f o i x h).bind (kGS3 es) := rfl
@[simp] theorem ap_kGS3 : kGS3 es () h = .ok es h := rfl
def kAsg2 : ES → EH → Res Flw := fun es h => .ok (.nx es) h
def kAsg (g : DG) (es : ES) : EV → EH → Res Flw := fun x h => (g x es h).bind kAsg2
@[simp] theorem ap_asg (a : DE) (g : DG) : dAsg a g es h = (a es h).bind (kAsg g es) := rfl
@[simp] theorem ap_kAsg (g : DG) (x : EV) : kAsg g es x h = (g x es h).bind kAsg2 := rfl
@[simp] theorem ap_kAsg2 : kAsg2 es h = .ok (.nx es) h := rfl
def kPar (i j : Nat) (es : ES) : List EV → EH → Res Flw := fun xs h => match xs with
  | [x, y] => .ok (.nx ((es.set i (some x)).set j (some y))) h
  | _ => .no
@[simp] theorem ap_par (i j : Nat) (a : DA) : dPar i j a es h = (a es h).bind (kPar i j es) := rfl
@[simp] theorem ap_kPar (i j : Nat) (x y : EV) : kPar i j es [x, y] h = .ok (.nx ((es.set i (some x)).set j (some y))) h := rfl
def kBM2 (f : EV → DL) (x : EV) : List EV → EH → Res EV := fun xs h => f x xs h
def kBM (f : EV → DL) (a : DA) (es : ES) : EV → EH → Res EV := fun x h => match x with
  | .ref n => match lstAt h n with
    | some _ => (a es h).bind (kBM2 f x)
    | none => .no
  | _ => .no
@[simp] theorem ap_bm (f : EV → DL) (o : DE) (a : DA) : dBM f o a es h = (o es h).bind (kBM f a es) := rfl
theorem kBM_ref {h : EH} (f : EV → DL) (a : DA) {n : Nat} {xs : List EV} (e : lstAt h n = some xs) : kBM f a es (.ref n) h = (a es h).bind (kBM2 f (.ref n)) := by
  simp [kBM, e]
@[simp] theorem ap_kBM2 (f : EV → DL) (x : EV) (xs : List EV) : kBM2 f x xs h = f x xs h := rfl
def kItL : EV → EH → Res Wlk := fun x h => match x with
  | .ref n => match lstAt h n with
    | some _ => .ok ⟨some n, [], fun _ x => x⟩ h
    | none => .no
  | _ => .no
@[simp] theorem ap_itL (a : DE) : dItL a es h = (a es h).bind kItL := by
  rfl
theorem kItL_ref {h : EH} {n : Nat} {xs : List EV} (e : lstAt h n = some xs) : kItL (.ref n) h = .ok ⟨some n, [], fun _ x => x⟩ h := by
  simp [kItL, e]
def kItT : EV → EH → Res Wlk := fun x h => match x with
  | .tup xs => .ok ⟨none, xs, fun _ x => x⟩ h
  | _ => .no
@[simp] theorem ap_itT (a : DE) : dItT a es h = (a es h).bind kItT := rfl
@[simp] theorem ap_kItT (xs : List EV) : kItT (.tup xs) h = .ok ⟨none, xs, fun _ x => x⟩ h := rfl
def kItR1 : List EV → EH → Res Wlk := fun xs h => match xs with
  | [.int n] => if decide (-100000 ≤ n) && decide (n ≤ 100000) = true then .ok ⟨none, rng 0 n.toNat, fun _ x => x⟩ h else .no
  | _ => .no
@[simp] theorem ap_itR1 (a : DA) : dItR1 a es h = (a es h).bind kItR1 := rfl
theorem ap_kItR1 (n : Int) (h1 : -100000 ≤ n) (h2 : n ≤ 100000) : kItR1 [.int n] h = .ok ⟨none, rng 0 n.toNat, fun _ x => x⟩ h := by
  simp [kItR1, h1, h2]
def kItR2 : List EV → EH → Res Wlk := fun xs h => match xs with
  | [.int lo, .int n] => if decide (-100000 ≤ n) && decide (n ≤ 100000) && decide (-100000 ≤ lo) && decide (lo ≤ 100000) = true then .ok ⟨none, rng lo (n - lo).toNat, fun _ x => x⟩ h else .no
  | _ => .no
@[simp] theorem ap_itR2 (a : DA) : dItR2 a es h = (a es h).bind kItR2 := rfl
theorem ap_kItR2 (lo n : Int) (h1 : -100000 ≤ n) (h2 : n ≤ 100000) (h3 : -100000 ≤ lo) (h4 : lo ≤ 100000) : kItR2 [.int lo, .int n] h = .ok ⟨none, rng lo (n - lo).toNat, fun _ x => x⟩ h := by
  simp [kItR2, h1, h2, h3, h4]
def kFor (g : DG) (b : DS) (es : ES) : Wlk → EH → Res Flw := fun it h1 => match it.cur h1 with
  | none => .no
  | some xs => forGo it g b (xs.length + 1) 0 es h1
@[simp] theorem ap_for (di : DI) (g : DG) (b : DS) : dFor di g b es h = (di es h).bind (kFor g b es) := rfl
def kLc2 : List EV → EH → Res EV := fun ys h2 => .ok (.ref h2.length) (h2 ++ [.lst ys])
@[simp] theorem ap_kLc2 (ys : List EV) : kLc2 ys h = .ok (.ref h.length) (h ++ [.lst ys]) := rfl
def kLc (g : DG) (t : DT) (e : DE) (vs : List Nat) (es : ES) : Wlk → EH → Res EV := fun it h1 => match it.cur h1 with
  | none => .no
  | some xs => (lcGo it g t e vs (xs.length + 1) 0 [] es h1).bind kLc2
@[simp] theorem ap_lc (di : DI) (g : DG) (t : DT) (e : DE) (vs : List Nat) : dLc di g t e vs es h = (di es h).bind (kLc g t e vs es) := rfl
@[simp] theorem ap_yes : dYes es h = .ok true h := rfl
def kPart : EV → EH → Res (Option Int) := fun x h1 => match x with
    | .int i => .ok (some i) h1
    | _ => .no
@[simp] theorem ap_part0 : dPart none es h = .ok none h := rfl
@[simp] theorem ap_part (d : DE) : dPart (some d) es h = (d es h).bind kPart := rfl
@[simp] theorem ap_kPart (i : Int) : kPart (.int i) h = .ok (some i) h := rfl
def kSl3 (f : EV → Option Int → Option Int → EH → Res EV) (x : EV) (l : Option Int) : Option Int → EH → Res EV := fun u h => f x l u h
def kSl2 (f : EV → Option Int → Option Int → EH → Res EV) (hi : ES → EH → Res (Option Int)) (es : ES) (x : EV) : Option Int → EH → Res EV := fun l h => (hi es h).bind (kSl3 f x l)
def kSl (f : EV → Option Int → Option Int → EH → Res EV) (lo hi : ES → EH → Res (Option Int)) (es : ES) : EV → EH → Res EV := fun x h => (lo es h).bind (kSl2 f hi es x)
@[simp] theorem ap_sl (f : EV → Option Int → Option Int → EH → Res EV) (a : DE) (lo hi : ES → EH → Res (Option Int)) : dSl f a lo hi es h = (a es h).bind (kSl f lo hi es) := rfl
@[simp] theorem ap_kSl (f : EV → Option Int → Option Int → EH → Res EV) (lo hi : ES → EH → Res (Option Int)) (x : EV) : kSl f lo hi es x h = (lo es h).bind (kSl2 f hi es x) := rfl
@[simp] theorem ap_kSl2 (f : EV → Option Int → Option Int → EH → Res EV) (hi : ES → EH → Res (Option Int)) (x : EV) (l : Option Int) : kSl2 f hi es x l h = (hi es h).bind (kSl3 f x l) := rfl
@[simp] theorem ap_kSl3 (f : EV → Option Int → Option Int → EH → Res EV) (x : EV) (l u : Option Int) : kSl3 f x l u h = f x l u h := rfl
def kDef : Flw → EH → Res EV := fun f h1 => match f with
  | .nx _ => .ok .non h1
  | .rt v => .ok v h1
  | .bk _ => .no
  | .ct _ => .no
theorem ap_def (np N : Nat) (b : DS) (args : List EV) (hl : args.length = np) : dDef np N b args h = (b (args.map some ++ List.replicate (N - args.length) none) h).bind kDef := by
  unfold dDef
  rw [if_pos hl]
  rfl
@[simp] theorem kDef_nx : kDef (.nx es) h = .ok .non h := rfl
@[simp] theorem kDef_rt (v : EV) : kDef (.rt v) h = .ok v h := rfl
end
section
variable (h : EH) (i j : Int)
@[simp] theorem orE_no {α : Type} (k : Unit → Res α) : (Res.no).orElse k = k () := rfl
@[simp] theorem orE_ok {α : Type} (v : α) (h : EH) (k : Unit → Res α) : (Res.ok v h).orElse k = .ok v h := rfl
@[simp] theorem f_add : fAdd (.int i) (.int j) h = .ok (.int (i + j)) h := rfl
@[simp] theorem f_sub : fSub (.int i) (.int j) h = .ok (.int (i - j)) h := rfl
theorem f_mul (hj : -18446744073709551616 < j) (hj2 : j < 18446744073709551616) : fMul (.int i) (.int j) h = .ok (.int (i * j)) h := by
  show (fInt _ _ _ _ _).orElse _ = _
  simp only [fInt]
  rw [if_pos (by simp [hj, hj2])]
  rfl
theorem f_mulL (hj : -18446744073709551616 < i) (hj2 : i < 18446744073709551616) : fMul (.int i) (.int j) h = .ok (.int (i * j)) h := by
  show (fInt _ _ _ _ _).orElse _ = _
  simp only [fInt]
  rw [if_pos (by simp [hj, hj2])]
  rfl
theorem f_mod (hj : 0 < j) : fMod (.int i) (.int j) h = .ok (.int (i % j)) h := by
  simp [fMod, fInt, hj]
theorem f_div (hj : 0 < j) (hj2 : j < 18446744073709551616) : fDiv (.int i) (.int j) h = .ok (.int (i / j)) h := by
  simp only [fDiv, fInt]
  rw [if_pos (by simp [hj, hj2])]
@[simp] theorem f_pow10 : fPow (.int 10) (.int 18) h = .ok (.int 1000000000000000000) h := by
  simp only [fPow, fInt]
  rw [if_pos (by decide)]
  rfl
@[simp] theorem f_lt : fLt (.int i) (.int j) h = .ok (.bl (decide (i < j))) h := rfl
@[simp] theorem f_le : fLe (.int i) (.int j) h = .ok (.bl (decide (i ≤ j))) h := rfl
@[simp] theorem f_gt : fGt (.int i) (.int j) h = .ok (.bl (decide (j < i))) h := rfl
@[simp] theorem f_ge : fGe (.int i) (.int j) h = .ok (.bl (decide (j ≤ i))) h := rfl
@[simp] theorem f_eqI : fEq (.int i) (.int j) h = .ok (.bl (decide (i = j))) h := by
  show (Res.ok _ _).orElse _ = _
  simp
@[simp] theorem f_neI : fNe (.int i) (.int j) h = .ok (.bl (!decide (i = j))) h := by
  show (Res.ok _ _).orElse _ = _
  simp
@[simp] theorem f_eqB (a b : Bool) : fEq (.bl a) (.bl b) h = .ok (.bl (decide (a = b))) h := by
  show (Res.ok _ _).orElse _ = _
  simp
@[simp] theorem f_eqStr (a b : Str) : fEq (.str a) (.str b) h = .ok (.bl (decide (a = b))) h := by
  show (Res.ok _ _).orElse _ = _
  simp
@[simp] theorem f_neStr (a b : Str) : fNe (.str a) (.str b) h = .ok (.bl (!decide (a = b))) h := by
  show (Res.ok _ _).orElse _ = _
  simp
@[simp] theorem f_neB (a b : Bool) : fNe (.bl a) (.bl b) h = .ok (.bl (!decide (a = b))) h := by
  show (Res.ok _ _).orElse _ = _
  simp
@[simp] theorem f_isN_non : fIsN false .non .non h = .ok (.bl true) h := rfl
@[simp] theorem f_isN_int : fIsN false (.int i) .non h = .ok (.bl false) h := rfl
@[simp] theorem f_isN_bl (b : Bool) : fIsN false (.bl b) .non h = .ok (.bl false) h := rfl
@[simp] theorem f_isN_str (b : Str) : fIsN false (.str b) .non h = .ok (.bl false) h := rfl
@[simp] theorem f_isN_ref (b : Nat) : fIsN false (.ref b) .non h = .ok (.bl false) h := rfl
@[simp] theorem f_isN_tup (b : List EV) : fIsN false (.tup b) .non h = .ok (.bl false) h := rfl
variable {h}
theorem f_ixL {m : Nat} {xs : List EV} {v : EV} (e : lstAt h m = some xs) (k : Nat) (ek : i = (k : Int)) (ev : xs[k]? = some v) : fIx (.ref m) (.int i) h = .ok v h := by
  subst ek
  show (fIxL _ _ _).orElse _ = _
  simp only [fIxL, e, atI_nat ev]
  rfl
theorem f_ixT {xs : List EV} {v : EV} (k : Nat) (ek : i = (k : Int)) (ev : xs[k]? = some v) : fIx (.tup xs) (.int i) h = .ok v h := by
  subst ek
  show (Res.no).orElse _ = _
  simp only [orE_no, fIxT, atI_nat ev]
theorem ixN_of {n k : Nat} (hk : k < n) : ixN n (k : Int) = some k := by
  unfold ixN
  rw [if_pos (by omega), if_pos (by omega)]
  simp
theorem s_lst {m : Nat} {xs : List EV} {x : EV} (e : mutAt h m = some xs) (k : Nat) (ek : i = (k : Int)) (hk : k < xs.length) : sLst (.ref m) (.int i) x h = .ok () (h.set m (.lst (xs.set k x))) := by
  subst ek
  simp only [sLst, e, ixN_of hk]
theorem m_append {m : Nat} {xs : List EV} {x : EV} (e : mutAt h m = some xs) (hl : xs.length < 100000) : mApp (.ref m) [x] h = .ok .non (h.set m (.lst (xs ++ [x]))) := by
  simp only [mApp, e, if_pos hl]
theorem f_len {m : Nat} {xs : List EV} (e : lstAt h m = some xs) : fLen [.ref m] h = .ok (.int xs.length) h := by
  simp only [fLen, e]
@[simp] theorem f_lenT (xs : List EV) : fLen [.tup xs] h = .ok (.int xs.length) h := rfl
theorem f_list {m : Nat} {xs : List EV} (e : lstAt h m = some xs) : fListOf [.ref m] h = .ok (.ref h.length) (h ++ [.lst xs]) := by
  simp only [fListOf, e]
theorem f_cat {m n : Nat} {xs ys : List EV} (e : mutAt h m = some xs) (e2 : mutAt h n = some ys) (hl : xs.length + ys.length ≤ 100000) : fAdd (.ref m) (.ref n) h = .ok (.ref h.length) (h ++ [.lst (xs ++ ys)]) := by
  show (Res.no).orElse _ = _
  simp only [orE_no, fCat, e, e2, if_pos hl]
theorem f_slice {m : Nat} {xs : List EV} (e : lstAt h m = some xs) (lo hi : Option Int) : fSl (.ref m) lo hi h = .ok (.ref h.length) (h ++ [.lst (cutE xs lo hi)]) := by
  simp only [fSl, e]
theorem f_rep {m : Nat} {xs : List EV} (e : mutAt h m = some xs) (h0 : 0 ≤ i) (h1 : i ≤ 1000) (hl : xs.length ≤ 10) : fMul (.ref m) (.int i) h = .ok (.ref h.length) (h ++ [.lst (List.replicate i.toNat xs).flatten]) := by
  show (Res.no).orElse _ = _
  simp only [orE_no, fRep, e]
  rw [if_pos (by simp [h0, h1, hl])]
end
theorem lst_mut {h : EH} {n : Nat} {xs : List EV} (e : mutAt h n = some xs) : lstAt h n = some xs := by
  unfold mutAt at e
  unfold lstAt
  split at e
  · rename_i q
    rw [q]
    exact e
  · cases e
theorem mutAt_lt {h : EH} {n : Nat} {xs : List EV} (e : mutAt h n = some xs) : n < h.length := by
  unfold mutAt at e
  split at e
  · rename_i q
    exact (List.getElem?_eq_some_iff.mp q).1
  · cases e
theorem lstAt_lt {h : EH} {n : Nat} {xs : List EV} (e : lstAt h n = some xs) : n < h.length := by
  unfold lstAt at e
  split at e
  · rename_i q
    exact (List.getElem?_eq_some_iff.mp q).1
  · rename_i q
    exact (List.getElem?_eq_some_iff.mp q).1
  · cases e
theorem lstAt_app {h t : EH} {n : Nat} {xs : List EV} (e : lstAt h n = some xs) : lstAt (h ++ t) n = some xs := by
  have hl := lstAt_lt e
  unfold lstAt at e ⊢
  rw [List.getElem?_append_left hl]
  exact e
theorem mutAt_app {h t : EH} {n : Nat} {xs : List EV} (e : mutAt h n = some xs) : mutAt (h ++ t) n = some xs := by
  have hl := mutAt_lt e
  unfold mutAt at e ⊢
  rw [List.getElem?_append_left hl]
  exact e
@[simp] theorem mutAt_new {h : EH} {xs : List EV} : mutAt (h ++ [.lst xs]) h.length = some xs := by
  unfold mutAt
  simp
@[simp] theorem lstAt_new {h : EH} {xs : List EV} : lstAt (h ++ [.lst xs]) h.length = some xs := lst_mut mutAt_new
theorem mutAt_set {h : EH} {n : Nat} {xs : List EV} (hn : n < h.length) : mutAt (h.set n (.lst xs)) n = some xs := by
  unfold mutAt
  rw [List.getElem?_set_self hn]
@[simp] theorem mutAt_new2 {h : EH} {o : EO} {xs : List EV} : mutAt (h ++ [o, .lst xs]) (h.length + 1) = some xs := by
  unfold mutAt
  rw [List.getElem?_append_right (by omega), Nat.add_sub_cancel_left]
  rfl
@[simp] theorem lstAt_new2 {h : EH} {o : EO} {xs : List EV} : lstAt (h ++ [o, .lst xs]) (h.length + 1) = some xs := lst_mut mutAt_new2
theorem lstAt_set {h : EH} {n : Nat} {xs : List EV} (hn : n < h.length) : lstAt (h.set n (.lst xs)) n = some xs := lst_mut (mutAt_set hn)
theorem mutAt_ne {h : EH} {m n : Nat} {o : EO} (hn : n ≠ m) : mutAt (h.set n o) m = mutAt h m := by
  unfold mutAt
  rw [List.getElem?_set_ne hn]
theorem lstAt_ne {h : EH} {m n : Nat} {o : EO} (hn : n ≠ m) : lstAt (h.set n o) m = lstAt h m := by
  unfold lstAt
  rw [List.getElem?_set_ne hn]
def Fr (X : List Nat) (h h' : EH) : Prop := h.length ≤ h'.length ∧ ∀ n, n < h.length → n ∉ X → h'[n]? = h[n]?
theorem Fr.refl (X : List Nat) (h : EH) : Fr X h h := ⟨Nat.le_refl _, fun _ _ _ => rfl⟩
theorem Fr.trans {X : List Nat} {h h1 h2 : EH} (a : Fr X h h1) (b : Fr X h1 h2) : Fr X h h2 := ⟨Nat.le_trans a.1 b.1, fun n hn hx => (b.2 n (Nat.lt_of_lt_of_le hn a.1) hx).trans (a.2 n hn hx)⟩
theorem Fr.app (X : List Nat) (h t : EH) : Fr X h (h ++ t) := ⟨by simp, fun n hn _ => List.getElem?_append_left hn⟩
theorem Fr.weak {X Y : List Nat} {h h' : EH} (a : Fr X h h') (hx : ∀ n ∈ X, n ∈ Y) : Fr Y h h' := ⟨a.1, fun n hn h => a.2 n hn fun q => h (hx n q)⟩
theorem Fr.set {X : List Nat} {h h' : EH} (a : Fr X h h') {n : Nat} {o : EO} (hn : n ∈ X ∨ h.length ≤ n) : Fr X h (h'.set n o) := ⟨by rw [List.length_set]; exact a.1, fun m hm hx => by
  rw [List.getElem?_set_ne]
  · exact a.2 m hm hx
  · intro e
    subst e
    rcases hn with z | z
    · exact hx z
    · omega⟩
theorem Fr.lst {X : List Nat} {h h' : EH} (a : Fr X h h') {n : Nat} {xs : List EV} (e : lstAt h n = some xs) (hx : n ∉ X) : lstAt h' n = some xs := by
  have hl := lstAt_lt e
  unfold lstAt at e ⊢
  rw [a.2 n hl hx]
  exact e
theorem Fr.mut {X : List Nat} {h h' : EH} (a : Fr X h h') {n : Nat} {xs : List EV} (e : mutAt h n = some xs) (hx : n ∉ X) : mutAt h' n = some xs := by
  have hl := mutAt_lt e
  unfold mutAt at e ⊢
  rw [a.2 n hl hx]
  exact e
theorem Fr.at {X : List Nat} {h h' : EH} (a : Fr X h h') {n : Nat} {o : EO} (e : h[n]? = some o) (hx : n ∉ X) : h'[n]? = some o := by
  rw [a.2 n (List.getElem?_eq_some_iff.mp e).1 hx]
  exact e
theorem tri_for {it : Wlk} {g : DG} {b : DS} {xs : List EV} {es : ES} {h : EH} {Q : Flw → EH → Prop} (I : Nat → ES → EH → Prop) (h0 : I 0 es h) (hcur : ∀ i es h, I i es h → it.cur h = some xs)
    (hstep : ∀ (i : Nat) (x : EV) es h (K : Flw → EH → Prop), xs[i]? = some x → I i es h → (∀ es2 h2, I (i + 1) es2 h2 → K (.nx es2) h2) → (∀ es2 h2, I (i + 1) es2 h2 → K (.ct es2) h2) → (∀ es2 h2, Q (.nx es2) h2 → K (.bk es2) h2) → (∀ v h2, Q (.rt v) h2 → K (.rt v) h2) →
      Tri (g (it.tl i x) es h) fun es1 h1 => Tri (b es1 h1) K)
    (hend : ∀ es h, I xs.length es h → Q (.nx es) h) : Tri (kFor g b es it h) Q := by
  have key : ∀ (m i : Nat) es h, i + m = xs.length + 1 → i ≤ xs.length → I i es h → Tri (forGo it g b m i es h) Q := by
    intro m
    induction m with
    | zero =>
      intro i es h hi hl hI
      exact absurd hi (by omega)
    | succ m ih =>
      intro i es h hi hl hI
      unfold forGo
      rw [hcur i es h hI]
      simp only
      cases hx : xs[i]? with
      | none =>
        have hge := List.getElem?_eq_none_iff.mp hx
        have : i = xs.length := by omega
        subst this
        exact hend es h hI
      | some x =>
        simp only
        have hlt := (List.getElem?_eq_some_iff.mp hx).1
        have hs := hstep i x es h (fun f h2 => match f with
          | .nx es2 => I (i + 1) es2 h2
          | .ct es2 => I (i + 1) es2 h2
          | .bk es2 => Q (.nx es2) h2
          | .rt v => Q (.rt v) h2) hx hI (fun _ _ q => q) (fun _ _ q => q) (fun _ _ q => q) (fun _ _ q => q)
        rw [tri_bind]
        refine hs.mono fun es1 h1 hs1 => ?_
        rw [tri_bind]
        refine hs1.mono fun f h2 hf => ?_
        cases f with
        | nx es2 => exact ih (i + 1) es2 h2 (by omega) (by omega) hf
        | ct es2 => exact ih (i + 1) es2 h2 (by omega) (by omega) hf
        | bk es2 => exact hf
        | rt v => exact hf
  unfold kFor
  rw [hcur 0 es h h0]
  exact key _ 0 es h (by omega) (by omega) h0
theorem tri_lc {it : Wlk} {g : DG} {t : DT} {e : DE} {vs : List Nat} {xs : List EV} {es : ES} {h : EH} {Q : EV → EH → Prop} (J : Nat → List EV → EH → Prop) (h0 : J 0 [] h) (hcur : ∀ i acc h, J i acc h → it.cur h = some xs)
    (hstep : ∀ (i : Nat) (x : EV) acc h, xs[i]? = some x → J i acc h → Tri (g (it.tl i x) (wip es vs) h) fun es1 h1 => Tri (t es1 h1) fun b h2 => if b = true then Tri (e es1 h2) fun y h3 => acc.length < 50000 ∧ J (i + 1) (acc ++ [y]) h3 else J (i + 1) acc h2)
    (hend : ∀ acc h, J xs.length acc h → Q (.ref h.length) (h ++ [.lst acc])) : Tri (kLc g t e vs es it h) Q := by
  have key : ∀ (m i : Nat) acc h, i + m = xs.length + 1 → i ≤ xs.length → J i acc h → Tri (lcGo it g t e vs m i acc es h) fun acc h => J xs.length acc h := by
    intro m
    induction m with
    | zero =>
      intro i acc h hi hl hI
      exact absurd hi (by omega)
    | succ m ih =>
      intro i acc h hi hl hI
      unfold lcGo
      rw [hcur i acc h hI]
      simp only
      cases hx : xs[i]? with
      | none =>
        have hge := List.getElem?_eq_none_iff.mp hx
        have : i = xs.length := by omega
        subst this
        exact hI
      | some x =>
        simp only
        have hs := hstep i x acc h hx hI
        have hlt := (List.getElem?_eq_some_iff.mp hx).1
        rw [tri_bind]
        refine hs.mono fun es1 h1 hs1 => ?_
        rw [tri_bind]
        refine hs1.mono fun b h2 hb => ?_
        cases b with
        | false => exact ih (i + 1) acc h2 (by omega) (by omega) hb
        | true =>
          simp only [if_true] at hb ⊢
          rw [tri_bind]
          refine hb.mono fun y h3 hy => ?_
          rw [if_pos hy.1]
          exact ih (i + 1) _ h3 (by omega) (by omega) hy.2
  unfold kLc
  rw [hcur 0 [] h h0]
  simp only
  rw [tri_bind]
  exact (key _ 0 [] h (by omega) (by omega) h0).mono fun acc h' hJ => hend acc h' hJ
def gvn (n : Nat) (p : Nat → Bool) (v : Nat → EV) : List EV := ((List.range n).filter p).map v
theorem gvn_zero (p : Nat → Bool) (v : Nat → EV) : gvn 0 p v = [] := rfl
theorem gvn_yes {n : Nat} {p : Nat → Bool} {v : Nat → EV} (h : p n = true) : gvn (n + 1) p v = gvn n p v ++ [v n] := by
  unfold gvn
  rw [List.range_succ, List.filter_append, List.map_append]
  simp [h]
theorem gvn_no {n : Nat} {p : Nat → Bool} {v : Nat → EV} (h : p n = false) : gvn (n + 1) p v = gvn n p v := by
  unfold gvn
  rw [List.range_succ, List.filter_append, List.map_append]
  simp [h]
theorem gvn_len (n : Nat) (p : Nat → Bool) (v : Nat → EV) : (gvn n p v).length ≤ n := by
  unfold gvn
  rw [List.length_map]
  have h := List.length_filter_le p (List.range n)
  rw [List.length_range] at h
  exact h
theorem tri_lcJ {it : Wlk} {j : Nat} {t : DT} {e : DE} {vs : List Nat} {xs : List EV} {es : ES} {h : EH} {Q : EV → EH → Prop} (J : Nat → List EV → EH → Prop) (h0 : J 0 [] h) (hcur : ∀ i acc h, J i acc h → it.cur h = some xs) (hacc : ∀ i acc h, J i acc h → acc.length < 50000)
    (hstep : ∀ (i : Nat) (x : EV) acc h (K : Bool → EH → Prop), xs[i]? = some x → J i acc h → (∀ h2, J (i + 1) acc h2 → K false h2) →
      (∀ h2, (∀ Ke : EV → EH → Prop, (∀ y h3, J (i + 1) (acc ++ [y]) h3 → Ke y h3) → Tri (e ((wip es vs).set j (some (it.tl i x))) h2) Ke) → K true h2) → Tri (t ((wip es vs).set j (some (it.tl i x))) h) K)
    (hend : ∀ acc h, J xs.length acc h → Q (.ref h.length) (h ++ [.lst acc])) : Tri (kLc (dName j) t e vs es it h) Q := by
  refine tri_lc (xs := xs) J h0 hcur (fun i x acc h' hx q => ?_) hend
  simp only [ap_name, tri_ok]
  refine hstep i x acc h' _ hx q (fun h2 q2 => ?_) (fun h2 q2 => ?_)
  · rw [if_neg (by decide)]
    exact q2
  · rw [if_pos rfl]
    refine q2 _ fun y h3 q3 => ⟨hacc i acc h' q, q3⟩
theorem tri_lcP {it : Wlk} {j : Nat} {t : DT} {e : DE} {vs : List Nat} {xs : List EV} {es : ES} {h : EH} {Q : EV → EH → Prop} (p : Nat → Bool) (v : Nat → EV) (hl : xs.length < 50000) (hcur : ∀ h', Fr [] h h' → it.cur h' = some xs)
    (ht : ∀ (i : Nat) (x : EV) h' (K : Bool → EH → Prop), xs[i]? = some x → Fr [] h h' → (∀ h2, Fr [] h' h2 → K (p i) h2) → Tri (t ((wip es vs).set j (some (it.tl i x))) h') K)
    (he : ∀ (i : Nat) (x : EV) h' (K : EV → EH → Prop), xs[i]? = some x → Fr [] h h' → p i = true → (∀ h2, Fr [] h' h2 → K (v i) h2) → Tri (e ((wip es vs).set j (some (it.tl i x))) h') K)
    (hend : ∀ h', Fr [] h h' → Q (.ref h'.length) (h' ++ [.lst (gvn xs.length p v)])) : Tri (kLc (dName j) t e vs es it h) Q := by
  refine tri_lc (xs := xs) (fun i acc h' => Fr [] h h' ∧ acc = gvn i p v) ⟨Fr.refl _ _, rfl⟩ (fun i acc h' q => hcur h' q.1) (fun i x acc h' hx q => ?_) fun acc h' q => ?_
  · obtain ⟨hf, rfl⟩ := q
    simp only [ap_name, tri_ok]
    have hlt := (List.getElem?_eq_some_iff.mp hx).1
    refine ht i x h' _ hx hf fun h2 f2 => ?_
    cases hp : p i with
    | false =>
      rw [if_neg (by decide)]
      exact ⟨hf.trans f2, (gvn_no hp).symm⟩
    | true =>
      rw [if_pos rfl]
      refine he i x h2 _ hx (hf.trans f2) hp fun h3 f3 => ?_
      exact ⟨by have := gvn_len i p v; omega, (hf.trans f2).trans f3, (gvn_yes hp).symm⟩
  · obtain ⟨hf, rfl⟩ := q
    exact hend h' hf
theorem gvn_false (n : Nat) (v : Nat → EV) : gvn n (fun _ => false) v = [] := by
  unfold gvn
  simp
theorem gvn_true (n : Nat) (v : Nat → EV) : gvn n (fun _ => true) v = (List.range n).map v := by
  unfold gvn
  congr 1
  exact List.filter_eq_self.mpr (by simp)
end EE
set_option Elab.async false
set_option linter.all false
set_option maxRecDepth 100000
set_option maxHeartbeats 1000000
namespace EE
open PySem L2
section
variable (es : ES) (h : EH)
def kFld (c i : Nat) : EV → EH → Res EV := fun x h1 => match x with
  | .ref n => match objAt c h1 n with
    | some fs => match fs[i]? with
      | some (some v) => .ok v h1
      | _ => .no
    | none => .no
  | _ => .no
@[simp] theorem ap_fld (c i : Nat) (o : DE) : dFld c i o es h = (o es h).bind (kFld c i) := rfl
def kSetF2 (c i : Nat) (es : ES) (y : EV) : EV → EH → Res Flw := fun x h2 => match x with
  | .ref n => match objAt c h2 n with
    | some fs => .ok (.nx es) (h2.set n (.obj c (fs.set i (some y))))
    | none => .no
  | _ => .no
def kSetF (c i : Nat) (o : DE) (es : ES) : EV → EH → Res Flw := fun y h1 => (o es h1).bind (kSetF2 c i es y)
@[simp] theorem ap_setF (c i : Nat) (o v : DE) : dSetF c i o v es h = (v es h).bind (kSetF c i o es) := rfl
@[simp] theorem ap_kSetF (c i : Nat) (o : DE) (y : EV) : kSetF c i o es y h = (o es h).bind (kSetF2 c i es y) := rfl
def kAugF3 (c i n : Nat) (es : ES) : EV → EH → Res Flw := fun z h3 => match objAt c h3 n with
  | some fs' => .ok (.nx es) (h3.set n (.obj c (fs'.set i (some z))))
  | none => .no
def kAugF2 (c i : Nat) (f : D2) (n : Nat) (w : EV) (es : ES) : EV → EH → Res Flw := fun y h2 => (f w y h2).bind (kAugF3 c i n es)
def kAugF (c i : Nat) (f : D2) (v : DE) (es : ES) : EV → EH → Res Flw := fun x h1 => match x with
  | .ref n => match objAt c h1 n with
    | some fs => match fs[i]? with
      | some (some w) => (v es h1).bind (kAugF2 c i f n w es)
      | _ => .no
    | none => .no
  | _ => .no
@[simp] theorem ap_augF (c i : Nat) (f : D2) (o v : DE) : dAugF c i f o v es h = (o es h).bind (kAugF c i f v es) := rfl
@[simp] theorem ap_kAugF2 (c i : Nat) (f : D2) (n : Nat) (w y : EV) : kAugF2 c i f n w es y h = (f w y h).bind (kAugF3 c i n es) := rfl
def kMeth2 (fn : DL) (x : EV) : List EV → EH → Res EV := fun xs h2 => (fn (x :: xs) h2).noer
def kMeth (c : Nat) (fn : DL) (a : DA) (es : ES) : EV → EH → Res EV := fun x h1 => match x with
  | .ref n => match objAt c h1 n with
    | some _ => (a es h1).bind (kMeth2 fn x)
    | none => .no
  | _ => .no
@[simp] theorem ap_meth (c : Nat) (fn : DL) (o : DE) (a : DA) : dMeth c fn o a es h = (o es h).bind (kMeth c fn a es) := rfl
@[simp] theorem ap_kMeth2 (fn : DL) (x : EV) (xs : List EV) : kMeth2 fn x xs h = (fn (x :: xs) h).noer := rfl
def kMake2 (n : Nat) : EV → EH → Res EV := fun v h2 => match v with
  | .non => .ok (.ref n) h2
  | _ => .no
def kMake (c nf : Nat) (fn : DL) : List EV → EH → Res EV := fun xs h1 => (fn (.ref h1.length :: xs) (h1 ++ [.obj c (List.replicate nf none)])).noer.bind (kMake2 h1.length)
@[simp] theorem ap_make (c nf : Nat) (fn : DL) (a : DA) : dMake c nf fn a es h = (a es h).bind (kMake c nf fn) := rfl
@[simp] theorem ap_kMake (c nf : Nat) (fn : DL) (xs : List EV) : kMake c nf fn xs h = (fn (.ref h.length :: xs) (h ++ [.obj c (List.replicate nf none)])).noer.bind (kMake2 h.length) := rfl
@[simp] theorem ap_kMake2 (n : Nat) : kMake2 n .non h = .ok (.ref n) h := rfl
@[simp] theorem ap_newD (t : Bool) : dNewD t es h = .ok (.ref h.length) (h ++ [.dic t []]) := rfl
def kBMD (f : EV → DL) (a : DA) (es : ES) : EV → EH → Res EV := fun x h1 => match x with
  | .ref n => match mdicAt h1 n with
    | some _ => (a es h1).bind (kBM2 f x)
    | none => .no
  | _ => .no
@[simp] theorem ap_bmD (f : EV → DL) (o : DE) (a : DA) : dBMD f o a es h = (o es h).bind (kBMD f a es) := rfl
def kItK : EV → EH → Res Wlk := fun x h1 => match x with
  | .ref n => match lkAt h1 n with
    | some (_, kvs) => .ok ⟨none, kvs.map (·.1), fun _ x => x⟩ h1
    | none => .no
  | _ => .no
@[simp] theorem ap_itK (a : DE) : dItK a es h = (a es h).bind kItK := rfl
def kItIT : EV → EH → Res Wlk := fun x h1 => match x with
  | .ref n => match lkAt h1 n with
    | some (true, kvs) => .ok ⟨none, kvs.map (fun p => .tup [p.1, p.2]), fun _ x => x⟩ h1
    | _ => .no
  | _ => .no
@[simp] theorem ap_itIT (a : DE) : dItIT a es h = (a es h).bind kItIT := rfl
def kTru : EV → EH → Res Bool := fun x h1 => match x with
  | .tup xs => .ok (!xs.isEmpty) h1
  | .bl b => .ok b h1
  | .non => .ok false h1
  | .int i => .ok (i != 0) h1
  | .ref n => match lstAt h1 n with
    | some xs => .ok (!xs.isEmpty) h1
    | none => match mdicAt h1 n with
      | some (false, kvs) => .ok (!kvs.isEmpty) h1
      | _ => .no
  | _ => .no
@[simp] theorem ap_tru (a : DE) : dTru a es h = (a es h).bind kTru := rfl
@[simp] theorem ap_kTruT (xs : List EV) : kTru (.tup xs) h = .ok (!xs.isEmpty) h := rfl
def kDc2 (kd : Bool) : List (EV × EV) → EH → Res EV := fun ys h2 => .ok (.ref h2.length) (h2 ++ [.dic kd ys])
def kDc (kd : Bool) (g : DG) (t : DT) (k e : DE) (vs : List Nat) (es : ES) : Wlk → EH → Res EV := fun it h1 => match it.cur h1 with
  | none => .no
  | some xs => (dcGo kd it g t k e vs (xs.length + 1) 0 [] es h1).bind (kDc2 kd)
@[simp] theorem ap_dc (kd : Bool) (di : DI) (g : DG) (t : DT) (k e : DE) (vs : List Nat) : dDc kd di g t k e vs es h = (di es h).bind (kDc kd g t k e vs es) := rfl
end
section
variable {es : ES} {h : EH} {n : Nat}
theorem objAt_of {c : Nat} {fs : List (Option EV)} (e : h[n]? = some (.obj c fs)) : objAt c h n = some fs := by
  unfold objAt
  rw [e]
  exact if_pos rfl
theorem mdicAt_of {t : Bool} {kvs : List (EV × EV)} (e : h[n]? = some (.dic t kvs)) : mdicAt h n = some (t, kvs) := by
  unfold mdicAt
  rw [e]
theorem dicAt_of {t : Bool} {kvs : List (EV × EV)} (e : h[n]? = some (.dic t kvs) ∨ h[n]? = some (.lkd t kvs)) : dicAt h n = some (t, kvs) := by
  unfold dicAt
  rcases e with e | e <;> rw [e]
theorem lkAt_of {t : Bool} {kvs : List (EV × EV)} (e : h[n]? = some (.lkd t kvs)) : lkAt h n = some (t, kvs) := by
  unfold lkAt
  rw [e]
theorem lstAt_of {xs : List EV} (e : h[n]? = some (.lst xs)) : lstAt h n = some xs := by
  unfold lstAt
  rw [e]
theorem mutAt_of {xs : List EV} (e : h[n]? = some (.lst xs)) : mutAt h n = some xs := by
  unfold mutAt
  rw [e]
theorem kFld_ref {c i : Nat} {fs : List (Option EV)} {v : EV} (e : h[n]? = some (.obj c fs)) (ev : fs[i]? = some (some v)) : kFld c i (.ref n) h = .ok v h := by
  simp only [kFld, objAt_of e, ev]
theorem kSetF2_ref {c i : Nat} {fs : List (Option EV)} {y : EV} (e : h[n]? = some (.obj c fs)) : kSetF2 c i es y (.ref n) h = .ok (.nx es) (h.set n (.obj c (fs.set i (some y)))) := by
  simp only [kSetF2, objAt_of e]
theorem kAugF_ref {c i : Nat} {f : D2} {v : DE} {fs : List (Option EV)} {w : EV} (e : h[n]? = some (.obj c fs)) (ev : fs[i]? = some (some w)) : kAugF c i f v es (.ref n) h = (v es h).bind (kAugF2 c i f n w es) := by
  simp only [kAugF, objAt_of e, ev]
theorem kAugF3_ref {c i : Nat} {fs : List (Option EV)} {z : EV} (e : h[n]? = some (.obj c fs)) : kAugF3 c i n es z h = .ok (.nx es) (h.set n (.obj c (fs.set i (some z)))) := by
  simp only [kAugF3, objAt_of e]
theorem kMeth_ref {c : Nat} {fn : DL} {a : DA} {fs : List (Option EV)} (e : h[n]? = some (.obj c fs)) : kMeth c fn a es (.ref n) h = (a es h).bind (kMeth2 fn (.ref n)) := by
  simp only [kMeth, objAt_of e]
theorem kBMD_ref {f : EV → DL} {a : DA} {t : Bool} {kvs : List (EV × EV)} (e : h[n]? = some (.dic t kvs)) : kBMD f a es (.ref n) h = (a es h).bind (kBM2 f (.ref n)) := by
  simp only [kBMD, mdicAt_of e]
theorem kItK_ref {t : Bool} {kvs : List (EV × EV)} (e : h[n]? = some (.lkd t kvs)) : kItK (.ref n) h = .ok ⟨none, kvs.map (·.1), fun _ x => x⟩ h := by
  simp only [kItK, lkAt_of e]
theorem kItIT_ref {kvs : List (EV × EV)} (e : h[n]? = some (.lkd true kvs)) : kItIT (.ref n) h = .ok ⟨none, kvs.map (fun p => .tup [p.1, p.2]), fun _ x => x⟩ h := by
  simp only [kItIT, lkAt_of e]
theorem f_dget {t : Bool} {kvs : List (EV × EV)} {x v : EV} (e : h[n]? = some (.dic t kvs) ∨ h[n]? = some (.lkd t kvs)) (hg : dgetE t kvs x = some (some v)) : fDGet (.ref n) x h = .ok v h := by
  simp only [fDGet, dicAt_of e, hg]
theorem f_din {neg t : Bool} {kvs : List (EV × EV)} {x : EV} {o : Option EV} (e : h[n]? = some (.dic t kvs) ∨ h[n]? = some (.lkd t kvs)) (hg : dgetE t kvs x = some o) : fDIn neg x (.ref n) h = .ok (.bl (neg ^^ o.isSome)) h := by
  simp only [fDIn, dicAt_of e, hg]
theorem s_dic {t : Bool} {kvs kvs' : List (EV × EV)} {x v : EV} (e : h[n]? = some (.dic t kvs)) (hp : dputE t kvs x v = some kvs') (hl : kvs.length < 100000) : sDic (.ref n) x v h = .ok () (h.set n (.dic t kvs')) := by
  simp only [sDic, mdicAt_of e, hp, if_pos hl]
theorem m_pop_yes {kvs : List (EV × EV)} {x z v : EV} {k : List Key} (e : h[n]? = some (.dic true kvs)) (hk : tkeyOf x = some k) (hv : dval tkeyOf kvs k = some v) : mPopT (.ref n) [x, z] h = .ok v (h.set n (.dic true (ddrop tkeyOf kvs k))) := by
  simp only [mPopT, mdicAt_of e, hk, hv]
theorem m_pop_no {kvs : List (EV × EV)} {x z : EV} {k : List Key} (e : h[n]? = some (.dic true kvs)) (hk : tkeyOf x = some k) (hv : dval tkeyOf kvs k = none) : mPopT (.ref n) [x, z] h = .ok z h := by
  simp only [mPopT, mdicAt_of e, hk, hv]
theorem f_keysT {kvs : List (EV × EV)} (e : h[n]? = some (.dic true kvs) ∨ h[n]? = some (.lkd true kvs)) : fKeysT [.ref n] h = .ok (.ref h.length) (h ++ [.lst (kvs.map (·.1))]) := by
  simp only [fKeysT, dicAt_of e]
theorem f_tupL {xs : List EV} (e : lstAt h n = some xs) : fTupL [.ref n] h = .ok (.tup xs) h := by
  simp only [fTupL, e]
theorem lstAt_dic {t : Bool} {kvs : List (EV × EV)} (e : h[n]? = some (.dic t kvs) ∨ h[n]? = some (.lkd t kvs)) : lstAt h n = none := by
  unfold lstAt
  rcases e with e | e <;> rw [e]
theorem f_sortI {xs : List EV} {l : List Int} (e : lstAt h n = some xs) (hl : intsE xs = some l) : fSorted [.ref n] h = .ok (.ref h.length) (h ++ [.lst ((isort l).map EV.int)]) := by
  show (fSortI _ _).orElse _ = _
  simp only [fSortI, e, hl]
  rfl
theorem f_sortT {kvs : List (EV × EV)} {l : List (Int × Int)} (e : h[n]? = some (.dic true kvs) ∨ h[n]? = some (.lkd true kvs)) (hl : pairsE (kvs.map (·.1)) = some l) : fSorted [.ref n] h = .ok (.ref h.length) (h ++ [.lst ((psort l).map pairE)]) := by
  show (fSortI _ _).orElse _ = _
  simp only [fSortI, lstAt_dic e, orE_no]
  show (fSortT _ _).orElse _ = _
  simp only [fSortT, dicAt_of e, hl]
  rfl
theorem f_sortD {kvs : List (EV × EV)} {l : List Int} (e : h[n]? = some (.dic false kvs) ∨ h[n]? = some (.lkd false kvs)) (hl : intsE (kvs.map (·.1)) = some l) (h64 : l.length < 64) : fSorted [.ref n] h = .ok (.ref h.length) (h ++ [.lst ((isort l).map EV.int)]) := by
  show (fSortI _ _).orElse _ = _
  simp only [fSortI, lstAt_dic e, orE_no]
  show (fSortT _ _).orElse _ = _
  simp only [fSortT, dicAt_of e, orE_no]
  show fSortD _ _ = _
  simp only [fSortD, dicAt_of e, hl, if_pos h64]
theorem f_dictT {xs : List EV} {kvs : List (EV × EV)} (e : lstAt h n = some xs) (hk : dfoldT [] xs = some kvs) : fDictT [.ref n] h = .ok (.ref h.length) (h ++ [.dic true kvs]) := by
  simp only [fDictT, e, hk]
theorem lock_fr {h1 : EH} {t : Bool} {kvs : List (EV × EV)} (e : h[n]? = some (.dic t kvs)) (f : Fr [] (h.set n (.lkd t kvs)) h1) : Fr [] h (h1.set n (.dic t kvs)) := by
  have hl := (List.getElem?_eq_some_iff.mp e).1
  refine ⟨by rw [List.length_set]; have := f.1; rw [List.length_set] at this; exact this, fun m hm _ => ?_⟩
  by_cases hmn : n = m
  · subst hmn
    have := f.1
    rw [List.length_set] at this
    rw [List.getElem?_set_self (by omega), e]
  · rw [List.getElem?_set_ne hmn, f.2 m (by rw [List.length_set]; exact hm) (by simp), List.getElem?_set_ne hmn]
theorem lock_at {h1 : EH} {t : Bool} {kvs : List (EV × EV)} (e : h[n]? = some (.dic t kvs)) (f : Fr [] (h.set n (.lkd t kvs)) h1) : h1[n]? = some (.lkd t kvs) :=
  f.at (List.getElem?_set_self (List.getElem?_eq_some_iff.mp e).1) (by simp)
theorem tri_lockE {sel d : DE} {t : Bool} {kvs : List (EV × EV)} {hs : EH} {Q : EV → EH → Prop} (es0 : sel es h = .ok (.ref n) hs) (e : h[n]? = some (.dic t kvs))
    (hd : Tri (d es (h.set n (.lkd t kvs))) fun v h1 => Fr [] (h.set n (.lkd t kvs)) h1 ∧ Q v (h1.set n (.dic t kvs))) : Tri (dLockE sel d es h) Q := by
  unfold dLockE rLock
  simp only [es0, mdicAt_of e]
  rw [tri_bind, tri_noer]
  refine hd.mono fun v h1 ⟨f, q⟩ => ?_
  rw [lkAt_of (lock_at e f)]
  exact q
theorem tri_dc {kd : Bool} {it : Wlk} {g : DG} {t : DT} {k e : DE} {vs : List Nat} {xs : List EV} {Q : EV → EH → Prop} (J : Nat → List (EV × EV) → EH → Prop) (h0 : J 0 [] h) (hcur : ∀ i acc h, J i acc h → it.cur h = some xs)
    (hstep : ∀ (i : Nat) (x : EV) acc h, xs[i]? = some x → J i acc h → Tri (g (it.tl i x) (wip es vs) h) fun es1 h1 => Tri (t es1 h1) fun b h2 => if b = true then Tri (k es1 h2) fun y h3 => Tri (e es1 h3) fun z h4 => ∃ acc', dputE kd acc y z = some acc' ∧ acc.length < 50000 ∧ J (i + 1) acc' h4 else J (i + 1) acc h2)
    (hend : ∀ acc h, J xs.length acc h → Q (.ref h.length) (h ++ [.dic kd acc])) : Tri (kDc kd g t k e vs es it h) Q := by
  have key : ∀ (m i : Nat) acc h, i + m = xs.length + 1 → i ≤ xs.length → J i acc h → Tri (dcGo kd it g t k e vs m i acc es h) fun acc h => J xs.length acc h := by
    intro m
    induction m with
    | zero =>
      intro i acc h hi hl hI
      exact absurd hi (by omega)
    | succ m ih =>
      intro i acc h hi hl hI
      unfold dcGo
      rw [hcur i acc h hI]
      simp only
      cases hx : xs[i]? with
      | none =>
        have hge := List.getElem?_eq_none_iff.mp hx
        have : i = xs.length := by omega
        subst this
        exact hI
      | some x =>
        simp only
        have hs := hstep i x acc h hx hI
        have hlt := (List.getElem?_eq_some_iff.mp hx).1
        rw [tri_bind]
        refine hs.mono fun es1 h1 hs1 => ?_
        rw [tri_bind]
        refine hs1.mono fun b h2 hb => ?_
        cases b with
        | false => exact ih (i + 1) acc h2 (by omega) (by omega) hb
        | true =>
          simp only [if_true] at hb ⊢
          rw [tri_bind]
          refine hb.mono fun y h3 hy => ?_
          rw [tri_bind]
          refine hy.mono fun z h4 ⟨acc', q1, q2, q3⟩ => ?_
          rw [q1]
          simp only
          rw [if_pos q2]
          exact ih (i + 1) _ h4 (by omega) (by omega) q3
  unfold kDc
  rw [hcur 0 [] h h0]
  simp only
  rw [tri_bind]
  exact (key _ 0 [] h (by omega) (by omega) h0).mono fun acc h' hJ => hend acc h' hJ
end
end EE
set_option Elab.async false
set_option linter.all false
set_option maxRecDepth 100000
set_option maxHeartbeats 1000000
namespace EE
open PySem PySem.Spec PyProof.Rows L2
section
variable {prog : Program} {w : World} {A : Around} {E : Value → Shared → Prop} {s : Shared}
theorem walks_rest (hh : A.handled = none) (Ia t : Addr) (ne : t ≠ Ia) (items : Array Value) (i0 : Nat) (h0 : i0 ≤ items.size) :
    Walks prog w A Ia [Ia, t] [Ia] (items.size - i0) (fun j v => items[i0 + j]? = some v) (fun j h => IsTupIter h Ia t (i0 + j) ∧ IsTup h t items) where
  sub := fun b hb => by
    rw [List.mem_singleton.mp hb]
    exact List.mem_cons_self
  frame := fun j h h' st k => by
    obtain ⟨⟨o, ho, r⟩, o2, ho2, r2⟩ := st
    exact ⟨⟨o, k Ia (by simp) o ho, r⟩, o2, k t (by simp) o2 ho2, r2⟩
  item := fun j s Q E hj st hQ => by
    have hlt : i0 + j < items.size := by omega
    refine next_tuple_item st.1 st.2 (x := items[i0 + j]) (by simp [hlt]) fun h1 hit hs => ?_
    exact hQ _ h1 s.toks (by simp [hlt]) ⟨hit, st.2.extBut hs.extBut ne⟩ fun b o hb e => hs.extBut b o (fun z => hb (by simp [z])) e
  done := fun s Q E st hQ => next_tuple_end hh st.1 st.2 (Array.getElem?_eq_none (by omega)) fun h1 he => hQ h1 s.toks fun b o hb e => he b o (fun z => hb (by simp [z])) e
  self := fun j s Q E st h => by
    obtain ⟨o, ho, hc, hd⟩ := st.1
    exact wpAny_pyIter_tupleiter ⟨o, ho, hc, hd⟩ h
theorem unpack_rest {t : Addr} {items : List Value} {i0 : Nat} {Q : List Value → Shared → Prop} (hh : A.handled = none) (ht : IsTup s.heap t items.toArray) (h0 : i0 ≤ items.length) (hz : items.length ≤ sizeLine)
    (hQ : ∀ (h2 : Heap) (tk : Nat), (∀ b o, s.heap.get? b = some o → h2.get? b = some o) → Q (items.take i0 ++ [.ref h2.objs.size]) { s with heap := h2.push { cls := .type "list", data := .seq (items.drop i0).toArray }, toks := tk }) :
    wpAny (model prog w) A (unpackItems (.ref t) (i0 + 1) (some i0)) Q E s := by
  have hlt : t ≠ s.heap.objs.size := by
    obtain ⟨o, ho, _⟩ := ht
    exact Nat.ne_of_lt (Heap.lt_size ho)
  unfold unpackItems
  refine wpAny_bind (m := notIterableAtAll _) ?_
  unfold notIterableAtAll
  refine wpAny_bind (wpAny_specialOf ht.typeIs slot_tuple_iter.lookup (wpAny_pure ?_))
  simp only [Bool.false_eq_true, if_false]
  refine wpAny_bind (wpAny_holding (iter_tuple ht ?_))
  refine wpAny_bind (wpAny_holding (draw_tuple hlt i0 0 _ _ ⟨_, Heap.get?_push_size _ rfl, rfl, rfl⟩ (ht.push _) (by simpa using h0) fun h1 hit1 sb1 => ?_))
  have e1 : List.take i0 (List.drop 0 items.toArray.toList) = items.take i0 := by simp
  rw [e1, if_neg (by rw [List.length_take]; omega)]
  have ht1 : IsTup h1 t items.toArray := (ht.push _).extBut sb1.extBut hlt
  rw [Nat.zero_add] at hit1
  have hsz : s.heap.objs.size < h1.objs.size := by
    obtain ⟨o, ho, _⟩ := hit1
    exact Heap.lt_size ho
  refine wpAny_bind (wpAny_holding (wpAny_collect_iter (T := "tuple_iterator") (.inr (.inr (.inr rfl))) (walks_rest (A := A.in1) hh s.heap.objs.size t hlt items.toArray i0 (by simpa using h0)).toS (fun j s' st => ?_) ⟨by rw [Nat.add_zero]; exact hit1, ht1⟩ (fun b hb => ?_) (by simp) (fun s2 acc hm hacc => ?_) (by simp; omega)))
  · obtain ⟨⟨o, ho, hc, _⟩, _⟩ := st
    exact ⟨o, ho, hc⟩
  · rcases List.mem_cons.mp hb with e | hb
    · rw [e]
      exact hsz
    · rw [List.mem_singleton.mp hb]
      exact ht1.lt
  · have ea : acc.toList = items.drop i0 := by
      have hl : acc.size = items.length - i0 := by simpa using hacc.1
      apply List.ext_getElem?
      intro j
      rw [List.getElem?_drop]
      cases hj : acc.toList[j]? with
      | none =>
        have := List.getElem?_eq_none_iff.mp hj
        rw [Array.length_toList] at this
        exact (List.getElem?_eq_none (by omega)).symm
      | some v =>
        have := hacc.2 j v (by rw [← Array.getElem?_toList]; exact hj)
        simpa using this.symm
    rw [ea, show i0 + 1 - 1 - i0 = 0 by omega, if_neg (by omega), Nat.sub_zero, List.take_length, List.drop_length]
    simp only [List.append_nil]
    refine wpAny_bind (wpAny_newList (wpAny_pure ?_) (by rw [List.length_drop]; omega))
    have hk : ∀ b o, s.heap.get? b = some o → s2.heap.get? b = some o := fun b o e => by
      have n : b ≠ s.heap.objs.size := Nat.ne_of_lt (Heap.lt_size e)
      exact hm.heap b o (by simpa using n) ((sb1.2 b n).trans (Heap.get?_push_of_some _ e))
    rw [Moved.eq_with hm]
    exact hQ _ _ hk
end
def gStar (K : Fg) (i0 : Nat) (t : TGs) : TG := fun v σ H Q => ∃ a xs, v = V.ref a ∧ SqT K H a xs ∧ i0 ≤ xs.length ∧ ∀ l, H l = none → t (xs.take i0 ++ [.ref l]) σ (upd H l (.lst (xs.drop i0))) Q
def dGStar (i0 : Nat) (r : DGs) : DG := fun x es h => match x with
  | .tup xs => if i0 ≤ xs.length then r (xs.take i0 ++ [.ref h.length]) es (h ++ [.lst (xs.drop i0)]) else .no
  | _ => .no
theorem vals_take {xs : List V} {us : List Value} (r : Vals xs us) : ∀ n, Vals (xs.take n) (us.take n) := by
  induction r with
  | nil => intro n; rw [List.take_nil, List.take_nil]; exact .nil
  | cons a r ih =>
    intro n
    cases n with
    | zero => exact .nil
    | succ n => exact .cons a (ih n)
theorem vals_drop {xs : List V} {us : List Value} (r : Vals xs us) : ∀ n, Vals (xs.drop n) (us.drop n) := by
  induction r with
  | nil => intro n; rw [List.drop_nil, List.drop_nil]; exact .nil
  | cons a r ih =>
    intro n
    cases n with
    | zero => exact .cons a r
    | succ n => exact ih n
section
variable {X : Cx} {ct : Nat → Addr × List Str} {E : XK} {G : Gx} {e : Expr} {es : List Expr} {pos p : Pos}
theorem pgs_star {t : TG} (h : PG X e t) (hs : (assignEach [.Starred e p] X.env).map (·.2) = [assign e X.env] := by rfl) (hs1 : (assignEach [e] X.env).map (·.2) = [assign e X.env] := by rfl) : PGs X [.Starred e p] (gCons t gNil) := by
  have q := pgs_cons h pgs_nil (by rw [hs1]; rfl)
  refine ⟨fun pins s σ H vs us Q I r hw => ?_⟩
  have := q.run pins s σ H vs us Q I r hw
  rw [hs1] at this
  rw [hs]
  exact this
theorem pg_tupStar {k i0 : Nat} {t : TGs} (hc : X.calm = true) (h : PGs X es t) (hn : (assignEach es X.env).length = i0 + 1 := by rfl) (hst : (assignEach es X.env).findIdx? (·.1) = some i0 := by rfl) : PG X (.Tuple es k pos) (gStar X.K i0 t) := by
  refine ⟨fun pins s σ H v u Q I r hw => ?_⟩
  obtain ⟨a, xs, rfl, hq, hl, hw⟩ := hw
  cases r
  obtain ⟨its, rv, ht, hz⟩ := I.tuple hq
  have hlen := rv.length
  rw [assign_Tuple]
  refine wpAny_bind (wpAny_standAt ?_)
  unfold unpack
  rw [hn, hst]
  refine wpAny_bind (wpAny_holding (unpack_rest (I.ok.hd hc) ht (by omega) (by omega) fun h2 tk hk => ?_))
  have I2 : L2.Inv X pins σ H { s with heap := h2, toks := tk } := I.kept hk
  have hf : H h2.objs.size = none := I2.hok.fresh (Nat.le_refl _)
  have new : ObjOk X.prog X.w (upd H h2.objs.size (.lst (xs.drop i0))) (h2.push { cls := .type "list", data := .seq (its.drop i0).toArray }) h2.objs.size (.lst (xs.drop i0)) :=
    ⟨by rw [List.length_drop]; omega, its.drop i0, 0, vals_drop rv i0, Heap.get?_push_size _ rfl⟩
  have I3 : L2.Inv X pins σ (upd H h2.objs.size (.lst (xs.drop i0))) { s with heap := h2.push { cls := .type "list", data := .seq (its.drop i0).toArray }, toks := tk } :=
    I2.laid (t' := tk) (fun b o e => Heap.get?_push_of_some _ e) (Nat.le_refl _) new
  exact h.run pins _ σ _ _ _ Q I3 ((vals_take rv i0).append (.cons (a := V.ref h2.objs.size) rfl .nil)) (hw _ hf)
theorem snd_gstar {i0 : Nat} {u : TGs} {ds : DGs} (h2 : SndGs G E u ds) : SndG G E (gStar G.K i0 u) (dGStar i0 ds) := fun ρ σ H es eh x us Q rel hx h => by
  cases x with
  | tup xs =>
    obtain ⟨a, vs, rfl, g2, g3⟩ := vr_tup.mp hx
    simp only [dGStar] at h
    split at h
    · rename_i hl
      refine ⟨a, vs, rfl, SqT.of g2, by rw [← g3.length]; exact hl, fun l hn => ?_⟩
      have e1 : Ext G.K ρ (ρ ++ [(true, l)]) H (upd H l (.lst (vs.drop i0))) := Ext.alloc _ hn
      have hr := rel.hr.alloc (u := .lst (vs.drop i0)) (o := .lst (xs.drop i0)) hn rfl ⟨_, upd_same, VRs.mono e1 _ _ (g3.drop i0)⟩
      exact h2 (ρ ++ [(true, l)]) σ _ es _ _ _ Q (rel.ext e1 hr) ((VRs.mono e1 _ _ (g3.take i0)).append (VRs.one (vr_ref.mpr ⟨l, last_get rel.hr.len, rfl⟩))) (h.mono e1)
    · exact h.elim
  | _ => exact h.elim
theorem xgs_star {d : DG} (h : PGd X ct E e d) (hs : (assignEach [.Starred e p] X.env).map (·.2) = [assign e X.env] := by rfl) (hs1 : (assignEach [e] X.env).map (·.2) = [assign e X.env] := by rfl) : PGsd X ct E [.Starred e p] (dGCons d dGNil) := by
  obtain ⟨t, a1, a2⟩ := h
  exact ⟨_, pgs_star a1 hs hs1, snd_gcons a2 snd_gnil⟩
theorem xg_star {k i0 : Nat} {d : DGs} (hc : X.calm = true) (h : PGsd X ct E es d) (hn : (assignEach es X.env).length = i0 + 1 := by rfl) (hst : (assignEach es X.env).findIdx? (·.1) = some i0 := by rfl) : PGd X ct E (.Tuple es k pos) (dGStar i0 d) := by
  obtain ⟨t, a1, a2⟩ := h
  exact ⟨_, pg_tupStar hc a1 hn hst, snd_gstar a2⟩
end
def MethDB (P : Program) (w : World) (K : Fg) (mg : Str → Option Value) (base : Heap) (ct : Nat → Addr × List Str) (k c : Nat) (m : Str) (fn : DL) : Prop := ∃ f fd ps, FnOk P w K mg base CX0 k f fd ps (spD0 ⟨K, ct⟩ fn) ∧ BMeth K (ct c).1 m f ∧ Binds K fd ps []
def TxB (K : Fg) (C : Addr) (m qual : Str) (st : Stmt) (ps : List Str) : Prop := ∃ f fd, Fun K m qual st f fd ∧ BMeth K C m f ∧ Binds K fd ps []
theorem TxB.m {K : Fg} {C : Addr} {m qual : Str} {st : Stmt} {ps : List Str} (T : TxB K C m qual st ps) : TxM K C m qual st ps := by
  obtain ⟨f, fd, F, b, hb⟩ := T
  exact ⟨f, fd, F, b.mt, hb⟩
section
variable {P : Program} {w : World} {K : PySem.W.Frag} {mg : Str → Option Value} {base : Heap} {ct : Nat → Addr × List Str}
theorem methdb_mk {c : Nat} {m qual : Str} {st : Stmt} {N ps : List Str} {k : Nat} {d : DS} (T : TxB K (ct c).1 m qual st ps) (S : FnScope N ps (defScope st))
    (h : ∀ (f : Addr) (cdv : Value) (A : Around) (outer : List Env) (s : Shared) (H : Hp) (E : XK), Room k (A.deeper (envOfC qual (defScope st) s.heap.objs.size f cdv)) → PSsd (cxOf CX0 P w K mg base N qual (defScope st) f cdv A outer s H E).nox ct E0 (defBody st) d) :
    MethDB P w K mg base ct (k + 1) c m (dDef ps.length N.length d) := by
  obtain ⟨f, fd, F, hm, hb⟩ := T
  exact ⟨f, fd, ps, fn_d F S (h f), hm, hb⟩
theorem MethDB.m {k c : Nat} {x : Str} {fn : DL} (F : MethDB P w K mg base ct k c x fn) : MethD P w K mg base ct k c x fn := by
  obtain ⟨f, fd, ps, h1, h2, h3⟩ := F
  exact ⟨f, fd, ps, h1, h2.mt, h3⟩
theorem MethDB.mono {j k c : Nat} {x : Str} {fn : DL} (F : MethDB P w K mg base ct j c x fn) (h : j ≤ k) : MethDB P w K mg base ct k c x fn := by
  obtain ⟨f, fd, ps, h1, h2⟩ := F
  exact ⟨f, fd, ps, h1.mono h, h2⟩
end
def tMethAny (K : Fg) (C : Addr) (m : Str) (g : Addr) (sp : Sp) (E : XK) (ta te : TE) : TE := fun σ H Q => ta σ H fun x H1 => ∃ a dx fs, x = V.ref a ∧ H1 a = some (.ins C dx fs) ∧ fs.lookup m = none ∧
  ∀ q, H1 q = none → te σ (upd H1 q (.met g a)) fun y H2 => ∃ b vs, y = V.ref b ∧ (SqT K H2 b vs ∨ SqL K H2 b vs) ∧ H2 q = some (.met g a) ∧ sp (.ref a :: vs) H2 Q E
theorem pe_methAny {X : Cx} {k : Nat} {C g : Addr} {m : Str} {sp : Sp} {E : XK} {o e : Expr} {ta te : TE} {p apos pos : Pos} (he : PE X o ta) (c : Cls X.K C) (b : BMeth X.K C m g) (F : FnR X.prog X.w X.K X.mg X.base CX0 k g sp) (hr : Room k X.A)
    (hx : Passes CX0 X E) (ha : PE X e te) (hbase : attributeBase o m X.env (eval o X.env) = eval o X.env) : PE X (.Call (.Attribute o m apos) [.Starred e p] [] pos) (tMethAny X.K C m g sp E ta te) := by
  refine ⟨fun pins s σ H Q I h => starcall_of hbase (thn (he.run pins s σ H _ I h) fun u t1 ⟨x, H1, I1, rx, a, dx, fs, ex, ea, l, q⟩ => ?_)⟩
  subst ex
  cases (show u = Value.ref a from rx)
  refine getbound_ok I1 ea c b l fun q1 t2 hq1 I2 => PySem.W.ks_call (P := PySem.W.MethP X.K q1 g (.ref a)) rfl (PySem.W.keeps_M b.fi) (PySem.W.ks_lone (thn (ha.run pins t2 σ _ _ I2 (q q1 hq1)) fun v t3 ⟨y, H2, I3, ry, bb, vs, ey, hb, hm, hsp⟩ => ?_))
  subst ey
  cases (show v = Value.ref bb from ry)
  refine StX.star_any I3 hb fun us t4 I4 rv => ⟨met_P I4 hm, wpAny_call (PySem.W.method_call (met_P I4 hm).1 (run_fnR (us := Value.ref a :: us) (vs := V.ref a :: vs) F hr hx I4 (.cons rfl rv) hsp))⟩
def itemsE (h : EH) : EV → Option (List EV)
  | .tup ys => some ys
  | .ref n => lstAt h n
  | _ => none
def dMethS (c : Nat) (fn : DL) (o e : DE) : DE := fun es h => (o es h).bind fun x h1 => match x with
  | .ref n => match objAt c h1 n with
    | some _ => (e es h1).bind fun y h2 => match itemsE h2 y with
      | some ys => (fn (.ref n :: ys) h2).noer
      | none => .no
    | none => .no
  | _ => .no
def dMethSB (c : Nat) (fn : DL) (o e1 e2 : DE) : DE := fun es h => (o es h).bind fun x h1 => match x with
  | .ref n => match objAt c h1 n with
    | some _ => (e1 es h1).bind fun y1 h2 => (e2 es h2).bind fun y h3 => match itemsE h3 y with
      | some ys => (fn (.ref n :: y1 :: ys) h3).noer
      | none => .no
    | none => .no
  | _ => .no
theorem items_of {G : Gx} {ρ : Rho} {H : Hp} {eh : EH} (hr : HR G ρ H eh) {y : EV} {v : V} {ys : List EV} (hv : VR G.K ρ H y v) (h : itemsE eh y = some ys) : ∃ b vs, v = .ref b ∧ (SqT G.K H b vs ∨ SqL G.K H b vs) ∧ VRs G.K ρ H ys vs := by
  unfold itemsE at h
  split at h
  · cases h
    obtain ⟨a, vs, rfl, h2, h3⟩ := vr_tup.mp hv
    exact ⟨a, vs, rfl, .inl (SqT.of h2), h3⟩
  · obtain ⟨a, vs, g1, g2, g3⟩ := lst_of hr h
    obtain ⟨a', q1, rfl⟩ := vr_ref.mp hv
    rw [g1] at q1; cases q1
    exact ⟨a, vs, rfl, .inr g2, g3⟩
  · cases h
section
variable {X : Cx} {ct : Nat → Addr × List Str} {E : XK} {e e1 e2 o : Expr} {pos p apos : Pos} {d de d1 d2 : DE} {m : Str}
theorem xe_methSB (c : Nat) {k : Nat} {fn : DL} (hc : Cd X.K (ct c)) (F : MethDB X.prog X.w X.K X.mg X.base ct k c m fn) (hr : Room k X.A) (hn : m ∉ (ct c).2) (ho : PEd X ct E o d) (h1 : PEd X ct E e1 d1) (h2 : PEd X ct E e2 d2)
    (hbase : attributeBase o m X.env (eval o X.env) = eval o X.env := by rfl) (hst : starEach [e1, .Starred e2 p] X.env = [(false, eval e1 X.env), (true, eval e2 X.env)] := by rfl) :
    PEd X ct E (.Call (.Attribute o m apos) [e1, .Starred e2 p] [] pos) (dMethSB c fn d d1 d2) := by
  obtain ⟨f, fd, ps, hF, hm, hb⟩ := F
  obtain ⟨t, a1, a2⟩ := ho
  obtain ⟨u1, b1, b2⟩ := h1
  obtain ⟨u2, c1, c2⟩ := h2
  refine ⟨_, pe_methSB a1 hc.cl hm (hF.raw hb .nil) hr pass0 b1 c1 hbase hst, fun ρ σ H es eh Q rel h => ?_⟩
  refine a2.bind rel h fun ρ1 H1 x eh1 v e1 rel1 v1 h1 => ?_
  split at h1
  · rename_i n
    split at h1
    · rename_i fs e3
      obtain ⟨a, dx, l, g1, g2, g3, g4, g5, g6, g7⟩ := obj_of rel1.hr e3
      have v1' := v1
      obtain ⟨a', q1, rfl⟩ := vr_ref.mp v1
      rw [g1] at q1; cases q1
      refine ⟨a, dx, l, rfl, g3, g7 m hn, fun q hq => ?_⟩
      have es0 : Ext X.K ρ1 ρ1 H1 (upd H1 q (.met f a)) := Ext.side _ hq
      have hr0 := rel1.hr.side (HO.met f a) hq
      have hnq := rel1.hr.fresh hq
      have w1 := h1.mono es0
      refine b2.bind (rel1.ext es0 hr0) w1 fun ρ2 H2 y1 eh2 u e2 rel2 v2 h2 => ?_
      refine c2.bind rel2 h2 fun ρ3 H3 y eh3 u3 e4 rel3 v3 h3 => ?_
      split at h3
      · rename_i ys hys
        obtain ⟨b, vs, rfl, j1, j2⟩ := items_of rel3.hr v3 hys
        refine ⟨b, vs, rfl, j1, (e2.trans e4).rest _ _ upd_same hnq, ρ3, .ref n :: y1 :: ys, eh3, ?_, rel3.hr, wr_noer h3⟩
        rw [List.append_nil]
        exact vrs_cons.mpr ⟨.ref a, _, rfl, VR.mono (es0.trans (e2.trans e4)) _ _ v1', vrs_cons.mpr ⟨u, vs, rfl, v2.mono e4, j2⟩⟩
      · exact h3.elim
    · exact h1.elim
  · exact h1.elim
theorem xe_methS (c : Nat) {k : Nat} {fn : DL} (hc : Cd X.K (ct c)) (F : MethDB X.prog X.w X.K X.mg X.base ct k c m fn) (hr : Room k X.A) (hn : m ∉ (ct c).2) (ho : PEd X ct E o d) (h1 : PEd X ct E e de)
    (hbase : attributeBase o m X.env (eval o X.env) = eval o X.env := by rfl) : PEd X ct E (.Call (.Attribute o m apos) [.Starred e p] [] pos) (dMethS c fn d de) := by
  obtain ⟨f, fd, ps, hF, hm, hb⟩ := F
  obtain ⟨t, a1, a2⟩ := ho
  obtain ⟨u1, b1, b2⟩ := h1
  refine ⟨_, pe_methAny a1 hc.cl hm (hF.raw hb .nil) hr pass0 b1 hbase, fun ρ σ H es eh Q rel h => ?_⟩
  refine a2.bind rel h fun ρ1 H1 x eh1 v e1 rel1 v1 h1 => ?_
  split at h1
  · rename_i n
    split at h1
    · rename_i fs e3
      obtain ⟨a, dx, l, g1, g2, g3, g4, g5, g6, g7⟩ := obj_of rel1.hr e3
      have v1' := v1
      obtain ⟨a', q1, rfl⟩ := vr_ref.mp v1
      rw [g1] at q1; cases q1
      refine ⟨a, dx, l, rfl, g3, g7 m hn, fun q hq => ?_⟩
      have es0 : Ext X.K ρ1 ρ1 H1 (upd H1 q (.met f a)) := Ext.side _ hq
      have hr0 := rel1.hr.side (HO.met f a) hq
      have hnq := rel1.hr.fresh hq
      have w1 := h1.mono es0
      refine b2.bind (rel1.ext es0 hr0) w1 fun ρ2 H2 y eh2 u e2 rel2 v2 h2 => ?_
      split at h2
      · rename_i ys hys
        obtain ⟨b, vs, rfl, j1, j2⟩ := items_of rel2.hr v2 hys
        refine ⟨b, vs, rfl, j1, e2.rest _ _ upd_same hnq, ρ2, .ref n :: ys, eh2, ?_, rel2.hr, wr_noer h2⟩
        · rw [List.append_nil]
          exact vrs_cons.mpr ⟨.ref a, _, rfl, VR.mono (es0.trans e2) _ _ v1', j2⟩
      · exact h2.elim
    · exact h1.elim
  · exact h1.elim
end
section
variable {X : Cx} {ct : Nat → Addr × List Str} {E : XK} {elt tg iter c : Expr} {scope : Scope} {pos : Pos} {di : DI} {dg : DG} {dt : DT} {de : DE}
theorem xe_lcg (own : List (Str × Nat)) {g : TG} (hc : X.calm = true) (hN : X.N.Nodup) (hi : PId X ct E tg iter di) (he : InBlk X scope fun Y => PEd Y ct E elt de) (hg : InBlk X scope fun Y => PG Y tg g) (hg2 : SndG ⟨X.K, ct⟩ E g dg) (ho : OnlyIn g (own.map (·.2)))
    (ok : blkC X.N X.env.scope scope own = true := by kernel_rfl) (hs : ∀ x, foldedSetIterable iter X.env x = pure x := by intro _; rfl) :
    PEd X ct E (.ListComp elt [⟨tg, iter, [], 0⟩] scope pos) (dLc di dg dYes de (own.map (·.2))) := by
  obtain ⟨wi, i1, i2⟩ := hi
  exact ⟨_, pe_lc (own := own) hc hN i1 (blkOk_by ok) hg (fun _ _ _ _ _ => pts_nil) (fun s H C cl fp => (he s H C cl fp).can) hs, snd_lc i2 hg2 ho snd_yes snd_tE⟩
theorem xe_lcgi (own : List (Str × Nat)) {g : TG} (hc : X.calm = true) (hN : X.N.Nodup) (hi : PId X ct E tg iter di) (ht : InBlk X scope fun Y => PTd Y ct E c dt) (he : InBlk X scope fun Y => PEd Y ct E elt de) (hg : InBlk X scope fun Y => PG Y tg g) (hg2 : SndG ⟨X.K, ct⟩ E g dg) (ho : OnlyIn g (own.map (·.2)))
    (ok : blkC X.N X.env.scope scope own = true := by kernel_rfl) (hs : ∀ x, foldedSetIterable iter X.env x = pure x := by intro _; rfl) :
    PEd X ct E (.ListComp elt [⟨tg, iter, [c], 0⟩] scope pos) (dLc di dg dt de (own.map (·.2))) := by
  obtain ⟨wi, i1, i2⟩ := hi
  exact ⟨_, pe_lc (own := own) hc hN i1 (blkOk_by ok) hg (fun s H C cl fp => pts_one (ht s H C cl fp).can) (fun s H C cl fp => (he s H C cl fp).can) hs, snd_lc i2 hg2 ho snd_tT snd_tE⟩
end
def dNoE : DE := fun _ _ => .no
theorem xe_no {X : Cx} {ct : Nat → Addr × List Str} {E : XK} {e : Expr} : PEd X ct E e dNoE := ⟨fun _ _ _ => False, ⟨fun _ _ _ _ _ _ h => h.elim⟩, fun _ _ _ _ _ _ _ h => h⟩
end EE
set_option Elab.async false
set_option linter.all false
set_option maxRecDepth 100000
set_option maxHeartbeats 1000000
namespace EE
open PySem PySem.Spec PyProof.Rows L2 SrtO Srt
def rSortP (K : Fg) : List V → Hp → VK → Prop := fun vs H Q => ∃ (a : Addr) (bs : List Addr), vs = [V.ref a] ∧ SqL K H a (bs.map V.ref) ∧ (∀ b ∈ bs, ∃ i j : Int, H b = some (.tup [.int i, .int j])) ∧
  ∀ (ys : List Addr) (p : Addr), ys.Perm bs → (ys.map (pairAt H)).Pairwise (fun p q => lexLe p q = true) → H p = none → Q (.ref p) (upd H p (.lst (ys.map V.ref)))
section
variable {X : Cx}
theorem call_sortedP : CallR X (.builtin "sorted") (rSortP X.K) := by
  intro pins s σ H vs us Q I r h
  obtain ⟨a, bs, rfl, hs, hp, q⟩ := h
  obtain ⟨its, rv, hl, hz⟩ := I.list hs
  rw [Vals.ref1 r]
  have ei := refs_at rv
  subst ei
  rw [List.length_map] at hz
  have hpair : ∀ v ∈ bs.map Value.ref, IsPair s.heap v (pv H v).1 (pv H v).2 := fun v hv => by
    obtain ⟨b, hb, rfl⟩ := List.mem_map.mp hv
    obtain ⟨i, j, hHb⟩ := hp b hb
    have epv : pv H (.ref b) = (i, j) := by
      show pairAt H b = (i, j)
      unfold pairAt
      rw [hHb]
    rw [epv]
    obtain ⟨_, its2, r2, o2, ho2, hc2, n2, hd2⟩ := I.hok b _ hHb
    obtain ⟨w1, w2, rfl, k1, k2⟩ := vals2 r2
    obtain ⟨t1, rfl⟩ := k1
    obtain ⟨t2, rfl⟩ := k2
    exact ⟨b, o2, t1, t2, n2, rfl, ho2, hc2, hd2⟩
  refine SrtO.sorted_ord (SrtO.swo_lex fun u => pv H u) hl.isList (by rw [List.length_map]; exact hz) (fun h2 h1 a' e keep => SrtO.pairs_sortableO (by omega) (fun v hv => (hpair v hv).keeps fun b o hb _ => (keep b o hb).2) fun o eo => ?_) fun out h1 h2 => ?_
  · have e' : some o = some (seqObj "list" (bs.map Value.ref).toArray 0) := eo.symm.trans e
    cases e'
    intro c
    exact absurd (Value.type.inj c) (by decide)
  · obtain ⟨ep, he'⟩ := PyProof.Rows.sortedAll_at s.heap (bs.map Value.ref) out.toArray
    obtain ⟨ys, hys⟩ : ∃ ys : List Addr, out = ys.map Value.ref := by
      refine ⟨out.map fun v => match v with | .ref b => b | _ => 0, ?_⟩
      rw [List.map_map]
      refine (List.map_id' out).symm.trans (List.map_congr_left fun v hv => ?_)
      obtain ⟨b, _, rfl⟩ := List.mem_map.mp (h2.perm.mem_iff.mp hv)
      rfl
    have hperm : ys.Perm bs := by
      have h3 := h2.perm
      rw [hys] at h3
      have h4 := h3.map fun v => match v with | .ref b => b | _ => 0
      rw [List.map_map, List.map_map] at h4
      have e3 : ∀ l : List Addr, l.map ((fun v => match v with | Value.ref b => b | _ => 0) ∘ Value.ref) = l := fun l => by
        rw [show ((fun v => match v with | Value.ref b => b | _ => 0) ∘ Value.ref) = id from rfl, List.map_id]
      rw [e3, e3] at h4
      exact h4
    have hsort : (ys.map (pairAt H)).Pairwise (fun p q => lexLe p q = true) := by
      rw [List.pairwise_map]
      have h3 := h1
      rw [hys] at h3
      refine (List.pairwise_map.mp h3).imp fun {x y} hxy => ?_
      have hxy : lexB (pairAt H y) (pairAt H x) = false := hxy
      unfold lexLe
      rw [hxy]
      rfl
    have hlen : (ys.map V.ref).length ≤ sizeLine := by
      rw [List.length_map, hperm.length_eq]
      exact hz
    exact ⟨.ref _, upd H (s.heap.objs.size + 1) (.lst (ys.map V.ref)), I.laid (t' := s.toks) (fun _ _ => PyProof.Rows.sortedAll_old) (Nat.le_succ _) ⟨hlen, out, ep, by rw [hys]; exact vals_refs ys, he'⟩, rfl, q ys _ hperm hsort (I.hok.fresh (Nat.le_succ _))⟩
end
def fSortP : DL := fun xs h => match xs with
  | [.ref n] => match lstAt h n with
    | some ys => match pairsE ys with
      | some l => .ok (.ref h.length) (h ++ [.lst ((psort l).map pairE)])
      | none => .no
    | none => .no
  | _ => .no
theorem pairs_refs {K : Fg} {ρ : Rho} {H : Hp} : ∀ {l : List (Int × Int)} {vs : List V}, VRs K ρ H (l.map pairE) vs → ∃ bs : List Addr, vs = bs.map V.ref ∧ bs.map (pairAt H) = l ∧ (∀ b ∈ bs, ∃ i j : Int, H b = some (.tup [.int i, .int j])) ∧ ∀ b ∈ bs, VR K ρ H (pairE (pairAt H b)) (.ref b)
  | [], vs, h => by
    rw [vrs_nil.mp h]
    exact ⟨[], rfl, rfl, fun b hb => absurd hb (by simp), fun b hb => absurd hb (by simp)⟩
  | p :: l, vs, h => by
    obtain ⟨v, r, rfl, h1, h2⟩ := vrs_cons.mp h
    obtain ⟨bs, rfl, k1, k2, k3⟩ := pairs_refs h2
    have h1' := h1
    obtain ⟨a, ws, rfl, hb, hw⟩ := vr_tup.mp h1
    obtain ⟨w1, w2, rfl, q1, q2⟩ := vrs_two hw
    rw [vr_int.mp q1, vr_int.mp q2] at hb
    have e : pairAt H a = p := by
      unfold pairAt
      rw [hb]
    refine ⟨a :: bs, rfl, by rw [List.map_cons, k1, e], fun b hb' => ?_, fun b hb' => ?_⟩
    · rcases List.mem_cons.mp hb' with z | z
      · subst z
        exact ⟨_, _, hb⟩
      · exact k2 b z
    · rcases List.mem_cons.mp hb' with z | z
      · subst z
        rw [e]
        exact h1'
      · exact k3 b z
section
variable {X : Cx} {ct : Nat → Addr × List Str} {E : XK} {G : Gx}
theorem c_sortP : Cld X ct E (.builtin "sorted") fSortP := ⟨_, call_sortedP, fun ρ H eh xs as Q hr hx h => by
  unfold fSortP at h
  split at h
  · rename_i n
    split at h
    · rename_i ys e1
      split at h
      · rename_i l e2
        obtain ⟨v, rfl, hv⟩ := vrs_one hx
        obtain ⟨a, vs, g1, g2, g3⟩ := lst_of hr e1
        obtain ⟨a', q1, rfl⟩ := vr_ref.mp hv
        rw [g1] at q1; cases q1
        rw [pairsE_eq e2] at g3
        obtain ⟨bs, rfl, k1, k2, k3⟩ := pairs_refs g3
        refine ⟨a, bs, rfl, g2, k2, fun zs p hp hs hn => ?_⟩
        have e3 : zs.map (pairAt H) = psort l := by
          refine psort_eq ?_ hs
          rw [← k1]
          exact hp.map _
        have hv := vrs_pairs (K := X.K) (ρ := ρ) fun b hb => k3 b (hp.mem_iff.mp hb)
        rw [e3] at hv
        exact new_lst hr hv h p hn
      · exact h.elim
    · exact h.elim
  · exact h.elim⟩
end
end EE
set_option Elab.async false
set_option linter.all false
set_option maxRecDepth 100000
set_option maxHeartbeats 1000000
namespace EE
open PySem PySem.Spec PyProof.Rows L2
def mExt : EV → DL := fun x xs h => match x, xs with
  | .ref n, [.ref m] => match mutAt h n, mutAt h m with
    | some ys, some zs => if ys.length + zs.length ≤ 100000 then .ok .non (h.set n (.lst (ys ++ zs))) else .no
    | _, _ => .no
  | _, _ => .no
def mClr : EV → DL := fun x xs h => match x, xs with
  | .ref n, [] => match mutAt h n with
    | some _ => .ok .non (h.set n (.lst []))
    | none => .no
  | _, _ => .no
def mRev : EV → DL := fun x xs h => match x, xs with
  | .ref n, [] => match mutAt h n with
    | some ys => .ok .non (h.set n (.lst ys.reverse))
    | none => .no
  | _, _ => .no
def dBM0 (f : EV → DL) (o : DE) : DE := fun es h => (o es h).bind fun x h1 => match x with
  | .ref n => match lstAt h1 n with
    | some _ => f x [] h1
    | none => .no
  | _ => .no
def fMax2 : DL := fun xs h => match xs with
  | [.int i, .int j] => .ok (.int (if j > i then j else i)) h
  | _ => .no
def fMin2 : DL := fun xs h => match xs with
  | [.int i, .int j] => .ok (.int (if j < i then j else i)) h
  | _ => .no
def fMaxL : DL := fun xs h => match xs with
  | [.ref n] => match lstAt h n with
    | some ys => match intsE ys with
      | some (i :: l) => .ok (.int (l.foldl max i)) h
      | _ => .no
    | none => .no
  | _ => .no
def fInt1 : DL := fun xs h => match xs with
  | [.int i] => .ok (.int i) h
  | [.bl b] => .ok (.int (if b then 1 else 0)) h
  | _ => .no
theorem VRs.rev {K : Fg} {ρ : Rho} {H : Hp} : ∀ {xs : List EV} {vs : List V}, VRs K ρ H xs vs → VRs K ρ H xs.reverse vs.reverse
  | [], vs, h => by rw [vrs_nil.mp h]; exact vrs_nil.mpr rfl
  | x :: xs, vs, h => by
    obtain ⟨v, r, rfl, h1, h2⟩ := vrs_cons.mp h
    rw [List.reverse_cons, List.reverse_cons]
    exact h2.rev.append (VRs.one h1)
theorem max_is : ∀ (l : List Int) (i : Int), (l.foldl max i) ∈ i :: l ∧ ∀ y ∈ i :: l, y ≤ l.foldl max i
  | [], i => ⟨by simp, fun y hy => by simp at hy; subst hy; exact Int.le_refl _⟩
  | x :: l, i => by
    have ih := max_is l (max i x)
    rw [List.foldl_cons]
    refine ⟨?_, fun y hy => ?_⟩
    · rcases List.mem_cons.mp ih.1 with z | z
      · rw [z]
        rcases Int.le_total i x with q | q
        · rw [Int.max_eq_right q]; simp
        · rw [Int.max_eq_left q]; simp
      · exact List.mem_cons_of_mem _ (List.mem_cons_of_mem _ z)
    · have h0 := ih.2 (max i x) List.mem_cons_self
      rcases List.mem_cons.mp hy with z | z
      · subst z
        exact Int.le_trans (Int.le_max_left _ _) h0
      · rcases List.mem_cons.mp z with z | z
        · subst z
          exact Int.le_trans (Int.le_max_right _ _) h0
        · exact ih.2 y (List.mem_cons_of_mem _ z)
section
variable {X : Cx} {ct : Nat → Addr × List Str} {E : XK} {G : Gx}
theorem m_ext : Mtd X ct E "list.extend" mExt := ⟨_, mt_extend, fun ρ H eh x a xs as Q hr hx hxs h => by
  unfold mExt at h
  split at h
  · rename_i n m
    split at h
    · rename_i ys zs e1 e2
      split at h
      · rename_i hl
        obtain ⟨a1, vs, g1, g2, g3, g4⟩ := mut_of hr e1
        obtain ⟨a2, us, k1, k2, k3, _⟩ := mut_of hr e2
        obtain ⟨a', q1, rfl⟩ := vr_ref.mp hx
        rw [g1] at q1; cases q1
        obtain ⟨v, rfl, hv⟩ := vrs_one hxs
        obtain ⟨b', q2, rfl⟩ := vr_ref.mp hv
        rw [k1] at q2; cases q2
        obtain ⟨e, hr'⟩ := put_lst hr g4 g2 (g3.append k3)
        exact ⟨a1, a2, vs, us, rfl, rfl, g2, k2, by rw [← g3.length, ← k3.length]; exact sz5 hl, h ρ _ _ e hr' (vr_non.mpr rfl)⟩
      · exact h.elim
    · exact h.elim
  · exact h.elim⟩
theorem m_clr : Mtd X ct E "list.clear" mClr := ⟨_, mt_clear, fun ρ H eh x a xs as Q hr hx hxs h => by
  unfold mClr at h
  split at h
  · rename_i n
    split at h
    · rename_i ys e1
      obtain ⟨a1, vs, g1, g2, g3, g4⟩ := mut_of hr e1
      obtain ⟨a', q1, rfl⟩ := vr_ref.mp hx
      rw [g1] at q1; cases q1
      obtain ⟨e, hr'⟩ := put_lst hr g4 g2 (vrs_nil.mpr rfl : VRs X.K ρ H [] [])
      exact ⟨a1, vs, rfl, vrs_nil.mp hxs, g2, h ρ _ _ e hr' (vr_non.mpr rfl)⟩
    · exact h.elim
  · exact h.elim⟩
theorem m_rev : Mtd X ct E "list.reverse" mRev := ⟨_, mt_reverse, fun ρ H eh x a xs as Q hr hx hxs h => by
  unfold mRev at h
  split at h
  · rename_i n
    split at h
    · rename_i ys e1
      obtain ⟨a1, vs, g1, g2, g3, g4⟩ := mut_of hr e1
      obtain ⟨a', q1, rfl⟩ := vr_ref.mp hx
      rw [g1] at q1; cases q1
      obtain ⟨e, hr'⟩ := put_lst hr g4 g2 g3.rev
      exact ⟨a1, vs, rfl, vrs_nil.mp hxs, g2, h ρ _ _ e hr' (vr_non.mpr rfl)⟩
    · exact h.elim
  · exact h.elim⟩
theorem c_max2 (hc : X.calm = true) : Cld X ct E (.builtin "max") fMax2 := ⟨_, call_max2 hc, fun ρ H eh xs as Q hr hx h => by
  unfold fMax2 at h
  split at h
  · rename_i i j
    obtain ⟨v, w, rfl, hv, hw⟩ := vrs_two hx
    rw [vr_int.mp hv, vr_int.mp hw]
    exact ⟨i, j, rfl, h ρ H _ (Ext.refl _ _ _) hr (vr_int.mpr rfl)⟩
  · exact h.elim⟩
theorem c_min2 (hc : X.calm = true) : Cld X ct E (.builtin "min") fMin2 := ⟨_, call_min2 hc, fun ρ H eh xs as Q hr hx h => by
  unfold fMin2 at h
  split at h
  · rename_i i j
    obtain ⟨v, w, rfl, hv, hw⟩ := vrs_two hx
    rw [vr_int.mp hv, vr_int.mp hw]
    exact ⟨i, j, rfl, h ρ H _ (Ext.refl _ _ _) hr (vr_int.mpr rfl)⟩
  · exact h.elim⟩
theorem c_maxL (hc : X.calm = true) : Cld X ct E (.builtin "max") fMaxL := ⟨_, cr_max hc, fun ρ H eh xs as Q hr hx h => by
  unfold fMaxL at h
  split at h
  · rename_i n
    split at h
    · rename_i ys e1
      split at h
      · rename_i i l e2
        obtain ⟨v, rfl, hv⟩ := vrs_one hx
        obtain ⟨a, vs, g1, g2, g3⟩ := lst_of hr e1
        obtain ⟨a', q1, rfl⟩ := vr_ref.mp hv
        rw [g1] at q1; cases q1
        rw [intsE_eq e2] at g3
        rw [VRs.of_ints g3] at g2
        refine ⟨a, i :: l, rfl, g2, by simp, fun m hm hy => ?_⟩
        have k := max_is l i
        have : m = l.foldl max i := Int.le_antisymm (k.2 m hm) (hy _ k.1)
        rw [this]
        exact h ρ H _ (Ext.refl _ _ _) hr (vr_int.mpr rfl)
      · exact h.elim
    · exact h.elim
  · exact h.elim⟩
theorem c_int1 : Cld X ct E (.type "int") fInt1 := ⟨_, call_int1, fun ρ H eh xs as Q hr hx h => by
  unfold fInt1 at h
  split at h
  · rename_i i
    obtain ⟨v, rfl, hv⟩ := vrs_one hx
    rw [vr_int.mp hv]
    exact .inl ⟨i, rfl, h ρ H _ (Ext.refl _ _ _) hr (vr_int.mpr rfl)⟩
  · rename_i b
    obtain ⟨v, rfl, hv⟩ := vrs_one hx
    rw [vr_bl.mp hv]
    exact .inr ⟨b, rfl, h ρ H _ (Ext.refl _ _ _) hr (vr_int.mpr rfl)⟩
  · exact h.elim⟩
abbrev fMax : DL := dLor fMax2 fMaxL
theorem c_max (hc : X.calm = true) : Cld X ct E (.builtin "max") fMax := (c_max2 hc).or (c_maxL hc)
variable {a e : Expr} {da : DE} {dr : DA}
theorem xe_extend {apos cpos : Pos} (ho : PEd X ct E a da) (ha : PAd X ct E [e] dr)
    (hbase : attributeBase a "extend" X.env (eval a X.env) = eval a X.env := by rfl)
    (hfew : ((backTo cpos (starEach [e] X.env)).all (fun x => !x.1) && (backToKw cpos (keywordEach [] X.env)).all (fun x => x.1.isSome)
      && decide ([e].length + ([] : List Keyword).length + (if ([] : List Keyword).isEmpty then 0 else 1) < 30)) = true := by rfl)
    (hline : (apos.endLine == cpos.line) = true := by rfl) (hs : starEach [e] X.env = (false, eval e X.env) :: starEach [] X.env := by rfl) (hplain : (backTo cpos (starEach [] X.env)).any (·.1) = false := by rfl) :
    PEd X ct E (.Call (.Attribute a "extend" apos) [e] [] cpos) (dBM mExt da dr) := xe_bmL PySem.F.plainAttrs_list PySem.F.slot_list_extend PySem.F.type_list_extend m_ext ho ha hbase hfew hline hs hplain
theorem snd_bm0L {r : V → List V → Hp → VK → Prop} {f : EV → DL} {to : TE} {o : DE} (hr : SndM G E r f) (ho : SndE G E to o) : SndE G E (tBM0 G.K "list" r to) (dBM0 f o) := fun ρ σ H es eh Q rel h => by
  refine ho.bind rel h fun ρ1 H1 x eh1 u e1 rel1 v1 h1 => ?_
  cases x with
  | ref n =>
    simp only at h1
    split at h1
    · rename_i ys e2
      obtain ⟨a1, vs, g1, g2, g3⟩ := lst_of rel1.hr e2
      obtain ⟨a', q1, rfl⟩ := vr_ref.mp v1
      rw [g1] at q1; cases q1
      exact ⟨.inl ⟨rfl, vs, g2⟩, hr ρ1 H1 eh1 _ _ [] [] Q rel1.hr v1 (vrs_nil.mpr rfl) h1⟩
    · exact h1.elim
  | _ => exact h1.elim
theorem xe_clear {apos cpos : Pos} (ho : PEd X ct E a da) (hbase : attributeBase a "clear" X.env (eval a X.env) = eval a X.env := by rfl) (hline : (apos.endLine == cpos.line) = true := by rfl) : PEd X ct E (.Call (.Attribute a "clear" apos) [] [] cpos) (dBM0 mClr da) := by
  obtain ⟨r, m1, m2⟩ := m_clr (X := X) (ct := ct) (E := E)
  obtain ⟨t, a1, a2⟩ := ho
  exact ⟨_, pe_bm0 PySem.F.plainAttrs_list PySem.F.slot_list_clear PySem.F.type_list_clear m1 a1 hbase hline, snd_bm0L m2 a2⟩
end
end EE
set_option Elab.async false
set_option linter.all false
set_option maxRecDepth 100000
set_option maxHeartbeats 1000000
namespace EE
open PySem PySem.Spec PyProof.Rows L2
theorem Res.bind_bind {α β γ : Type} (r : Res α) (f : α → EH → Res β) (k : β → EH → Res γ) : (r.bind f).bind k = r.bind fun v h => (f v h).bind k := by cases r <;> rfl
def dPairs : List (DE × DE) → ES → EH → Res (List (EV × EV))
  | [], _, h => .ok [] h
  | p :: r, es, h => (p.1 es h).bind fun x h1 => (p.2 es h1).bind fun y h2 => (dPairs r es h2).bind fun ps h3 => .ok ((x, y) :: ps) h3
def dfoldK : List (EV × EV) → List (EV × EV) → Option (List (EV × EV))
  | acc, [] => some acc
  | acc, p :: r => match dputE false acc p.1 p.2 with
    | some acc' => dfoldK acc' r
    | none => none
def dDisp (ds : List (DE × DE)) : DE := fun es h => (dPairs ds es h).bind fun ps h1 => if ps.length ≤ 15 then match dfoldK [] ps with
  | some kvs => .ok (.ref h1.length) (h1 ++ [.dic false kvs])
  | none => .no else .no
inductive SndPs (G : Gx) (E : XK) : List (TE × TE) → List (DE × DE) → Prop where
  | nil : SndPs G E [] []
  | cons {tk tv : TE} {dk dv : DE} {trs : List (TE × TE)} {ds : List (DE × DE)} (hk : SndE G E tk dk) (hv : SndE G E tv dv) (r : SndPs G E trs ds) : SndPs G E ((tk, tv) :: trs) ((dk, dv) :: ds)
def PR2 (K : Fg) (ρ : Rho) (H : Hp) : List (EV × EV) → List (V × V) → Prop := Paired fun p q => VR K ρ H p.1 q.1 ∧ VR K ρ H p.2 q.2
theorem SndPs.bind0 {G : Gx} {E : XK} {trs : List (TE × TE)} {ds : List (DE × DE)} (h : SndPs G E trs ds) : ∀ {ρ0 ρ : Rho} {σ : L2.St} {H0 H : Hp} {es : ES} {eh : EH} {γ δ : Type} {R2 : Rho → Hp → γ → δ → Prop} {k : List (EV × EV) → EH → Res γ} {Q2 : δ → Hp → Prop} {Kt : List (V × V) → Hp → Prop}, Rel G ρ σ H es eh → Ext G.K ρ0 ρ H0 H →
    wr G R2 ρ0 H0 ((dPairs ds es eh).bind k) Q2 E → (∀ ρ1 H1 ps eh1 us, Ext G.K ρ ρ1 H H1 → Rel G ρ1 σ H1 es eh1 → PR2 G.K ρ1 H1 ps us → wr G R2 ρ0 H0 (k ps eh1) Q2 E → Kt us H1) → tPairs trs σ H Kt := by
  induction h with
  | nil =>
    intro ρ0 ρ σ H0 H es eh γ δ R2 k Q2 Kt rel e0 hw hk
    exact hk ρ H [] eh [] (Ext.refl _ _ _) rel .nil hw
  | cons hk hv r ih =>
    intro ρ0 ρ σ H0 H es eh γ δ R2 k Q2 Kt rel e0 hw hkt
    simp only [dPairs, Res.bind_bind] at hw
    refine hk.bind0 rel e0 hw fun ρ1 H1 x eh1 u e1 rel1 v1 h1 => ?_
    refine hv.bind0 rel1 (e0.trans e1) h1 fun ρ2 H2 y eh2 w e2 rel2 v2 h2 => ?_
    refine ih rel2 ((e0.trans e1).trans e2) h2 fun ρ3 H3 ps eh3 us e3 rel3 v3 h3 => ?_
    exact hkt ρ3 H3 _ eh3 _ ((e1.trans e2).trans e3) rel3 (.cons ⟨(v1.mono e2).mono e3, v2.mono e3⟩ v3) h3
theorem dfoldK_ok {K : Fg} {ρ : Rho} {H : Hp} : ∀ {ps : List (EV × EV)} {us : List (V × V)} {acc out : List (EV × EV)} {la : List (Key × V)}, PR2 K ρ H ps us → KR keyOf (VR K ρ H) acc la → dfoldK acc ps = some out →
    ∃ kvs : List (Key × V), us = kvs.map (fun kv => (kV kv.1, kv.2)) ∧ KR keyOf (VR K ρ H) out (mergeK la kvs)
  | [], us, acc, out, la, hp, hk, h => by
    cases hp
    cases h
    exact ⟨[], rfl, hk⟩
  | p :: ps, us, acc, out, la, hp, hk, h => by
    cases hp with
    | cons hab hr =>
      rename_i b us'
      unfold dfoldK at h
      split at h
      · rename_i acc' e1
        obtain ⟨kk, e2, e3⟩ := Option.map_eq_some_iff.mp e1
        subst e3
        obtain ⟨kvs, q1, q2⟩ := dfoldK_ok hr (hk.put e2 hab.2) h
        refine ⟨(kk, b.2) :: kvs, ?_, q2⟩
        rw [List.map_cons, ← q1, ← keyOf_eq e2 hab.1]
      · cases h
section
variable {X : Cx} {ct : Nat → Addr × List Str} {E : XK} {pos : Pos}
def PPd (X : Cx) (ct : Nat → Addr × List Str) (E : XK) (pos : Pos) (keys : List (Option Expr)) (values : List Expr) (ds : List (DE × DE)) : Prop := ∃ trs, PPs X pos keys values trs ∧ SndPs ⟨X.K, ct⟩ E trs ds
theorem xp_nil : PPd X ct E pos [] [] [] := ⟨_, pps_nil, .nil⟩
theorem xp_cons {k v : Expr} {ks : List (Option Expr)} {vs : List Expr} {dk dv : DE} {ds : List (DE × DE)} (hk : PEd X ct E k dk) (hv : PEd X ct E v dv) (hr : PPd X ct E pos ks vs ds) : PPd X ct E pos (some k :: ks) (v :: vs) ((dk, dv) :: ds) := by
  obtain ⟨t, a1, a2⟩ := hk
  obtain ⟨u, b1, b2⟩ := hv
  obtain ⟨trs, c1, c2⟩ := hr
  exact ⟨_, pps_cons a1 b1 c1, .cons a2 b2 c2⟩
theorem paired_len {α β : Type} {F : α → β → Prop} {l : List α} {m : List β} (h : Paired F l m) : l.length = m.length := Paired.length h
theorem xe_disp {keys : List (Option Expr)} {values : List Expr} {ds : List (DE × DE)} (h : PPd X ct E pos keys values ds) (hall : keys.all (·.isSome) = true := by rfl) (hl : keys.length = values.length := by rfl) (h0 : keys ≠ [] := by decide) (h15 : keys.length ≤ 15 := by decide) :
    PEd X ct E (.Dict keys values pos) (dDisp ds) := by
  obtain ⟨trs, h1, h2⟩ := h
  refine ⟨_, pe_disp h1 hall hl h0 h15, fun ρ σ H es eh Q rel hw => fun p hp => ?_⟩
  have es0 : Ext X.K ρ ρ H (upd H p (.dK [])) := Ext.side _ hp
  have hr0 := rel.hr.side (HO.dK []) hp
  have hnp := rel.hr.fresh hp
  refine h2.bind0 (rel.ext es0 hr0) es0 hw fun ρ1 H1 ps eh1 us e1 rel1 v1 h3 => ?_
  have hD : H1 p = some (.dK []) := e1.rest _ _ upd_same hnp
  have hn1 : (true, p) ∉ ρ1 := fun hm => by
    rcases e1.new _ hm with z | z
    · exact hnp z
    · rw [upd_same] at z; cases z
  split at h3
  · rename_i hlen
    split at h3
    · rename_i kvs e2
      obtain ⟨l, q1, q2⟩ := dfoldK_ok (acc := []) (la := []) v1 rfl e2
      refine ⟨hD, l, q1, ?_, ?_⟩
      · have := paired_len v1
        rw [q1, List.length_map] at this
        omega
      · have eb : Ext0 X.K ρ1 ρ1 H1 (upd H1 p (.dK (mergeK [] l))) := ext0_upd2 hD (fun _ z => by cases z) fun _ _ z => by cases z
        have hr2 : HR ⟨X.K, ct⟩ ρ1 (upd H1 p (.dK (mergeK [] l))) eh1 := rel1.hr.ext eb fun a ha => upd_ne fun z => hn1 (z ▸ ha)
        have et : Ext X.K ρ ρ1 H (upd H1 p (.dK (mergeK [] l))) := (es0.trans e1).mut hp
        have ep : Ext X.K ρ (ρ1 ++ [(true, p)]) H (upd H1 p (.dK (mergeK [] l))) := et.push hp
        have e0 : Ext0 X.K ρ1 (ρ1 ++ [(true, p)]) H1 (upd H1 p (.dK (mergeK [] l))) := ⟨⟨[(true, p)], rfl⟩, eb.tup, eb.frz⟩
        have hr3 := hr2.push (o := .dic false kvs) hn1 rfl ⟨_, upd_same, _, rfl, q2.mono fun x v => VR.mono0 e0 x v⟩
        exact h3 (ρ1 ++ [(true, p)]) _ _ ep hr3 (vr_ref.mpr ⟨p, last_get rel1.hr.len, rfl⟩)
    · exact h3.elim
  · exact h3.elim
end
def dPar3 (i j l : Nat) (a : DA) : DS := fun es h => (a es h).bind fun xs h1 => match xs with
  | [x, y, z] => .ok (.nx (((es.set i (some x)).set j (some y)).set l (some z))) h1
  | _ => .no
section
variable {X : Cx} {ct : Nat → Addr × List Str} {E : XK} {pos : Pos} {a b c : Expr} {dr : DA}
theorem xs_par3 (i j l : Nat) {x y z : Str} {px py pz pt : Pos} {kt k2 pt2} (hc : X.calm = true) (hN : X.N.Nodup) (ha : PAd X ct E [a, b, c] dr) (hw : swappedStores [.Tuple [.Name x px, .Name y py, .Name z pz] kt pt] (.Tuple [a, b, c] k2 pt2) X.env = pure (some [x, y, z]))
    (hi : X.N[i]? = some x := by rfl) (hj : X.N[j]? = some y := by rfl) (hl : X.N[l]? = some z := by rfl) (hij : i ≠ j := by decide) (hil : i ≠ l := by decide) (hjl : j ≠ l := by decide)
    (hx : X.env.scope.names.lookup x = some .local := by rfl) (hy : X.env.scope.names.lookup y = some .local := by rfl) (hz : X.env.scope.names.lookup z = some .local := by rfl)
    (hs : swapsWithSole [.Tuple [.Name x px, .Name y py, .Name z pz] kt pt] (.Tuple [a, b, c] k2 pt2) pos.line X.env = pure false := by rfl) : PSd X ct E (.Assign [.Tuple [.Name x px, .Name y py, .Name z pz] kt pt] (.Tuple [a, b, c] k2 pt2) pos) (dPar3 i j l dr) := by
  obtain ⟨t, a1, a2⟩ := ha
  refine ⟨_, ps_par3 hc hN hi hj hl hij hil hjl hx hy hz a1 hw hs, fun ρ σ H es eh D rel h => ?_⟩
  refine a2.bind rel h fun ρ1 H1 xs eh1 u e1 rel1 v1 h1 => ?_
  split at h1
  · rename_i x y z
    obtain ⟨u1, r1, rfl, q1, v2⟩ := vrs_cons.mp v1
    obtain ⟨u2, u3, rfl, q2, q3⟩ := vrs_two v2
    exact ⟨u1, u2, u3, rfl, h1 ρ1 H1 (.nx _) (Ext.refl _ _ _) rel1.hr (((rel1.sl.set i q1).set j q2).set l q3)⟩
  · exact h1.elim
end
end EE
set_option Elab.async false
set_option linter.all false
set_option maxRecDepth 100000
set_option maxHeartbeats 1000000
namespace EE
open PySem PySem.Spec PyProof.Rows L2
@[irreducible] def whN : Nat := 1000000000
def whGo (t : DT) (b : DS) : Nat → DS
  | 0, _, _ => .no
  | m + 1, es, h => (t es h).bind fun c h1 => if c = true then (b es h1).bind fun f h2 => match f with
      | .nx es2 => whGo t b m es2 h2
      | .ct es2 => whGo t b m es2 h2
      | .bk es2 => .ok (.nx es2) h2
      | .rt v => .ok (.rt v) h2
    else .ok (.nx es) h1
def dWhile (t : DT) (b : DS) : DS := fun es h => whGo t b whN es h
section
variable {X : Cx} {ct : Nat → Addr × List Str} {E : XK} {G : Gx}
theorem snd_while {tt : TT} {tb : TS} {t : DT} {b : DS} (ht : SndT G E tt t) (hb : SndS G E tb b) : SndS G E (tWhile tt tb) (dWhile t b) := fun ρ σ H es eh D rel h => by
  refine ⟨fun m σ' H' => ∃ ρ' es' eh', Ext G.K ρ ρ' H H' ∧ Rel G ρ' σ' H' es' eh' ∧ wr G (RF G) ρ' H' (whGo t b m es' eh') (qD D) E, ⟨whN, ρ, es, eh, Ext.refl _ _ _, rel, h⟩, ?_⟩
  rintro m σ' H' ⟨ρ', es', eh', e', rel', hw⟩
  cases m with
  | zero => exact hw.elim
  | succ m =>
    unfold whGo at hw
    refine ht.bind rel' hw fun ρ1 H1 c eh1 cv e1 rel1 v1 h1 => ?_
    subst v1
    cases c with
    | false => exact iteF (h1 ρ1 H1 (.nx σ') (Ext.refl _ _ _) rel1.hr rel1.sl)
    | true =>
      refine iteT ⟨fun σ2 H2 => ∃ ρ2 es2 eh2, Ext G.K ρ ρ2 H H2 ∧ Rel G ρ2 σ2 H2 es2 eh2 ∧ wr G (RF G) ρ2 H2 (whGo t b m es2 eh2) (qD D) E, fun σ2 H2 q => ⟨m, Nat.lt_succ_self m, q⟩, ?_⟩
      simp only [if_true] at h1
      refine hb.bind rel1 h1 fun ρ5 H5 f eh5 vf e5 hr5 rf h5 => ?_
      have et := (e'.trans e1).trans e5
      cases f with
      | nx es5 =>
        cases vf with
        | nx σ5 => exact ⟨ρ5, es5, eh5, et, ⟨rf, hr5⟩, h5⟩
        | _ => exact rf.elim
      | ct es5 =>
        cases vf with
        | ct σ5 => exact ⟨ρ5, es5, eh5, et, ⟨rf, hr5⟩, h5⟩
        | _ => exact rf.elim
      | bk es5 =>
        cases vf with
        | bk σ5 => exact h5 ρ5 H5 (.nx σ5) (Ext.refl _ _ _) hr5 rf
        | _ => exact rf.elim
      | rt v5 =>
        cases vf with
        | rt u5 => exact h5 ρ5 H5 (.rt u5) (Ext.refl _ _ _) hr5 rf
        | _ => exact rf.elim
theorem xs_while (hp : PassesOwn (model X.prog X.w) X.A X.env X.xe) {c : Expr} {body : List Stmt} {pos : Pos} {dt : DT} {ds : DS} (hc : PTd X ct E c dt) (hb : PSsd X ct E body ds) : PSd X ct E (.While c body [] pos) (dWhile dt ds) := by
  obtain ⟨tc, a1, a2⟩ := hc
  obtain ⟨tb, b1, b2⟩ := hb
  exact ⟨_, ps_while hp a1 b1, snd_while a2 b2⟩
def mPopI : EV → DL := fun x xs h => match x, xs with
  | .ref n, [.int i] => match mutAt h n with
    | some ys => if decide (0 ≤ i) && decide (i < 100000) = true then match ys[i.toNat]? with
        | some y => .ok y (h.set n (.lst (ys.eraseIdx i.toNat)))
        | none => .no
      else .no
    | none => .no
  | _, _ => .no
theorem VRs.erase {K : Fg} {ρ : Rho} {H : Hp} : ∀ {xs : List EV} {vs : List V} (i : Nat), VRs K ρ H xs vs → VRs K ρ H (xs.eraseIdx i) (vs.eraseIdx i)
  | [], vs, i, h => by rw [vrs_nil] at h; subst h; exact vrs_nil.mpr rfl
  | y :: xs, vs, i, h => by
    obtain ⟨u, r, rfl, h1, h2⟩ := vrs_cons.mp h
    cases i with
    | zero => exact h2
    | succ i => exact vrs_cons.mpr ⟨u, r.eraseIdx i, rfl, h1, VRs.erase i h2⟩
theorem m_popI : Mtd X ct E "list.pop" mPopI := ⟨_, mt_popAt, fun ρ H eh x a xs as Q hr hx hxs h => by
  unfold mPopI at h
  split at h
  · rename_i n i
    split at h
    · rename_i ys e1
      split at h
      · rename_i hi
        simp only [Bool.and_eq_true, decide_eq_true_eq] at hi
        split at h
        · rename_i y e2
          obtain ⟨a1, vs, g1, g2, g3, g4⟩ := mut_of hr e1
          obtain ⟨a', q1, rfl⟩ := vr_ref.mp hx
          rw [g1] at q1; cases q1
          obtain ⟨v, rfl, hv⟩ := vrs_one hxs
          rw [vr_int.mp hv]
          obtain ⟨w, w1, w2⟩ := g3.get e2
          have hlt := (List.getElem?_eq_some_iff.mp w1).1
          obtain ⟨e, hr'⟩ := put_lst hr g4 g2 (g3.erase i.toNat)
          refine ⟨a1, vs, i, i.toNat, w, rfl, rfl, g2, by omega, by omega, ?_, w1, h ρ _ _ e hr' (VR.mono e _ _ w2)⟩
          have h0 : ¬ i < 0 := by omega
          have h9 : i < (vs.length : Int) := by omega
          simp [seqIndex?, h0, hi.1, h9]
        · exact h.elim
      · exact h.elim
    · exact h.elim
  · exact h.elim⟩
variable {a e e' : Expr} {da : DE} {dr : DA}
theorem xe_popI {apos cpos : Pos} (ho : PEd X ct E a da) (ha : PAd X ct E [e] dr)
    (hbase : attributeBase a "pop" X.env (eval a X.env) = eval a X.env := by rfl)
    (hfew : ((backTo cpos (starEach [e] X.env)).all (fun x => !x.1) && (backToKw cpos (keywordEach [] X.env)).all (fun x => x.1.isSome)
      && decide ([e].length + ([] : List Keyword).length + (if ([] : List Keyword).isEmpty then 0 else 1) < 30)) = true := by rfl)
    (hline : (apos.endLine == cpos.line) = true := by rfl) (hs : starEach [e] X.env = (false, eval e X.env) :: starEach [] X.env := by rfl) (hplain : (backTo cpos (starEach [] X.env)).any (·.1) = false := by rfl) :
    PEd X ct E (.Call (.Attribute a "pop" apos) [e] [] cpos) (dBM mPopI da dr) := xe_bmL PySem.F.plainAttrs_list PySem.F.slot_list_pop PySem.F.type_list_pop m_popI ho ha hbase hfew hline hs hplain
def rPopK : V → List V → Hp → VK → Prop := fun x xs H Q => ∃ (a : Addr) (kvs : List (Key × V)) (k : Key) (d : V), x = .ref a ∧ xs = [kV k, d] ∧ H a = some (.dK kvs) ∧ (∀ v, valV kvs k = some v → Q v (upd H a (.dK (dropK kvs k)))) ∧ (valV kvs k = none → Q d H)
theorem mt_popK : MtR X "dict.pop" rPopK := by
  intro pins s σ H x xs v us Q I rx rxs h
  obtain ⟨a, kvs, k, d, rfl, rfl, ha, q1, q2⟩ := h
  cases rx
  obtain ⟨u1, u2, rfl, r1, r2⟩ := vals2 rxs
  cases hv : valV kvs k with
  | none => exact d_popD I ha r1 hv fun s' I' => ⟨d, H, I', r2, q2 hv⟩
  | some v0 => exact d_pop I ha r1 hv (.inr ⟨u2, rfl⟩) fun w' s' I' rw' => ⟨v0, _, I', rw', q1 v0 hv⟩
def mPopK : EV → DL := fun x xs h => match x, xs with
  | .ref n, [y, z] => match mdicAt h n, keyOf y with
    | some (false, kvs), some k => match dval keyOf kvs k with
      | some v => .ok v (h.set n (.dic false (ddrop keyOf kvs k)))
      | none => .ok z h
    | _, _ => .no
  | _, _ => .no
theorem m_popK : Mtd X ct E "dict.pop" mPopK := ⟨_, mt_popK, fun ρ H eh x a xs as Q hr hx hxs h => by
  unfold mPopK at h
  split at h
  · rename_i n y z
    split at h
    · rename_i kvs k e1 e2
      obtain ⟨p, u, g1, g2, g3, g4⟩ := mdic_of hr e1
      obtain ⟨l, rfl, hk⟩ := g3
      obtain ⟨p', q1, rfl⟩ := vr_ref.mp hx
      rw [g1] at q1; cases q1
      obtain ⟨v, w, rfl, hv, hw⟩ := vrs_two hxs
      have hkv := keyOf_eq e2 hv
      subst hkv
      have hval := hk.val k
      refine ⟨p, l, k, w, rfl, rfl, g2, fun v0 hv0 => ?_, fun hn => ?_⟩
      · rw [hv0] at hval
        split at h
        · rename_i ve e3
          rw [e3] at hval
          obtain ⟨e, hr'⟩ := put_dic (t := false) (kvs := kvs) (kvs' := ddrop keyOf kvs k) (u' := .dK (dropK l k)) hr g4 g2 ⟨l, rfl, hk⟩ ⟨_, rfl, hk.drop k⟩
          exact h ρ _ _ e hr' (VR.mono e _ _ hval)
        · rename_i e3
          rw [e3] at hval
          exact hval.elim
      · rw [hn] at hval
        split at h
        · rename_i ve e3
          rw [e3] at hval
          exact hval.elim
        · exact h ρ _ _ (Ext.refl _ _ _) hr hw
    · exact h.elim
  · exact h.elim⟩
theorem xe_popK {apos cpos : Pos} (ho : PEd X ct E a da) (ha : PAd X ct E [e, e'] dr)
    (hbase : attributeBase a "pop" X.env (eval a X.env) = eval a X.env := by rfl)
    (hfew : ((backTo cpos (starEach [e, e'] X.env)).all (fun x => !x.1) && (backToKw cpos (keywordEach [] X.env)).all (fun x => x.1.isSome)
      && decide ([e, e'].length + ([] : List Keyword).length + (if ([] : List Keyword).isEmpty then 0 else 1) < 30)) = true := by rfl)
    (hline : (apos.endLine == cpos.line) = true := by rfl) (hs : starEach [e, e'] X.env = (false, eval e X.env) :: starEach [e'] X.env := by rfl) (hplain : (backTo cpos (starEach [e'] X.env)).any (·.1) = false := by rfl) :
    PEd X ct E (.Call (.Attribute a "pop" apos) [e, e'] [] cpos) (dBMD mPopK da dr) := by
  obtain ⟨r, m1, m2⟩ := m_popK (X := X) (ct := ct) (E := E)
  obtain ⟨t, a1, a2⟩ := ho
  obtain ⟨u, b1, b2⟩ := ha
  exact ⟨_, pe_bm PySem.F.plainAttrs_dict PySem.F.slot_dict_pop PySem.F.type_dict_pop m1 a1 b1 hbase hfew hline hs hplain, snd_bmD m2 a2 b2⟩
def rUpdK : V → List V → Hp → VK → Prop := fun x xs H Q => ∃ (a b : Addr) (kvs more : List (Key × V)), x = .ref a ∧ xs = [.ref b] ∧ a ≠ b ∧ H a = some (.dK kvs) ∧ H b = some (.dK more) ∧ kvs.length + more.length ≤ sizeLine ∧ Q .non (upd H a (.dK (mergeK kvs more)))
theorem mt_updK : MtR X "dict.update" rUpdK := by
  intro pins s σ H x xs v us Q I rx rxs h
  obtain ⟨a, b, kvs, more, rfl, rfl, hab, ha, hb, hz, q⟩ := h
  cases rx
  obtain ⟨u1, rfl, r1⟩ := vals1 rxs
  cases r1
  obtain ⟨z, hd, vs, rel, dd⟩ := dk_of I.hok ha
  obtain ⟨z2, hd2, rs, rel2, dd2⟩ := dk_of I.hok hb
  refine call_meetsIn PySem.F.slot_dict_update dd.typeIs PySem.F.entry_dict_update (PySem.F.args_dict_update_2 _ _) (meets_dict_update (mixKind X.prog X.w) a b hab hd2) ⟨vs, rs, dd, dd2, by rw [← rel.length, ← rel2.length]; exact hz, fun h' dd' _ hs => ?_⟩
  have he : ∃ q, h'.get? a = some q := let ⟨q, _, _, hq, _⟩ := dd'; ⟨q, hq⟩
  exact ⟨.non, _, d_write I (by rw [ha]; exact True.intro) hs he (dk_new (Nat.le_trans (length_mergeK more kvs) hz) hd (KV.merge rel2 rel) dd'), rfl, q⟩
theorem KR.merge {R : EV → V → Prop} : ∀ {qs : List (EV × EV)} {m : List (Key × V)} {ps out : List (EV × EV)} {l : List (Key × V)}, KR keyOf R qs m → KR keyOf R ps l → dfoldK ps qs = some out → KR keyOf R out (mergeK l m)
  | [], m, ps, out, l, hq, hp, e => by
    cases hq
    simp only [dfoldK, Option.some.injEq] at e
    subst e
    exact hp
  | q :: qs, m, ps, out, l, hq, hp, e => by
    obtain ⟨k, v, r, rfl, h1, h2, h3⟩ := hq
    have e3 : dputE false ps q.1 q.2 = some (dput keyOf ps k q.1 q.2) := by
      have : dputE false ps q.1 q.2 = (keyOf q.1).map fun k => dput keyOf ps k q.1 q.2 := rfl
      rw [this, h1]
      rfl
    unfold dfoldK at e
    rw [e3] at e
    exact KR.merge (l := putK l k v) h3 (KR.put h1 h2 hp) e
def mUpdK : EV → DL := fun x xs h => match x, xs with
  | .ref n, [.ref m] => if n = m then .no else match mdicAt h n, mdicAt h m with
    | some (false, kvs), some (false, more) => if kvs.length + more.length ≤ 100000 then match dfoldK kvs more with
        | some out => .ok .non (h.set n (.dic false out))
        | none => .no
      else .no
    | _, _ => .no
  | _, _ => .no
theorem m_updK : Mtd X ct E "dict.update" mUpdK := ⟨_, mt_updK, fun ρ H eh x a xs as Q hr hx hxs h => by
  unfold mUpdK at h
  split at h
  · rename_i n m
    split at h
    · exact h.elim
    · rename_i hnm
      split at h
      · rename_i kvs more e1 e2
        split at h
        · rename_i hl
          split at h
          · rename_i out e3
            obtain ⟨p, u, g1, g2, g3, g4⟩ := mdic_of hr e1
            obtain ⟨l, rfl, hk⟩ := g3
            obtain ⟨p2, u2, k1, k2, k3, k4⟩ := mdic_of hr e2
            obtain ⟨l2, rfl, hk2⟩ := k3
            obtain ⟨p', q1, rfl⟩ := vr_ref.mp hx
            rw [g1] at q1; cases q1
            obtain ⟨v, rfl, hv⟩ := vrs_one hxs
            obtain ⟨p', q1, rfl⟩ := vr_ref.mp hv
            rw [k1] at q1; cases q1
            obtain ⟨e, hr'⟩ := put_dic (t := false) (kvs := kvs) (kvs' := out) (u' := .dK (mergeK l l2)) hr g4 g2 ⟨l, rfl, hk⟩ ⟨_, rfl, KR.merge hk2 hk e3⟩
            exact ⟨p, p2, l, l2, rfl, rfl, fun z => hnm (hr.dis _ _ _ (z ▸ g4) k4), g2, k2, by rw [← hk.len, ← hk2.len]; exact sz5 hl, h ρ _ _ e hr' (vr_non.mpr rfl)⟩
          · exact h.elim
        · exact h.elim
      · exact h.elim
  · exact h.elim⟩
theorem xe_updK {apos cpos : Pos} (ho : PEd X ct E a da) (ha : PAd X ct E [e] dr)
    (hbase : attributeBase a "update" X.env (eval a X.env) = eval a X.env := by rfl)
    (hfew : ((backTo cpos (starEach [e] X.env)).all (fun x => !x.1) && (backToKw cpos (keywordEach [] X.env)).all (fun x => x.1.isSome)
      && decide ([e].length + ([] : List Keyword).length + (if ([] : List Keyword).isEmpty then 0 else 1) < 30)) = true := by rfl)
    (hline : (apos.endLine == cpos.line) = true := by rfl) (hs : starEach [e] X.env = (false, eval e X.env) :: starEach [] X.env := by rfl) (hplain : (backTo cpos (starEach [] X.env)).any (·.1) = false := by rfl) :
    PEd X ct E (.Call (.Attribute a "update" apos) [e] [] cpos) (dBMD mUpdK da dr) := by
  obtain ⟨r, m1, m2⟩ := m_updK (X := X) (ct := ct) (E := E)
  obtain ⟨t, a1, a2⟩ := ho
  obtain ⟨u, b1, b2⟩ := ha
  exact ⟨_, pe_bm PySem.F.plainAttrs_dict PySem.F.slot_dict_update PySem.F.type_dict_update m1 a1 b1 hbase hfew hline hs hplain, snd_bmD m2 a2 b2⟩
end
end EE
set_option Elab.async false
set_option linter.all false
set_option maxRecDepth 100000
set_option maxHeartbeats 4000000
namespace TT
open PySem PySem.Spec PyProof.Rows L2
def Rnd (m : Nat) : Prop := m % 2 = 1 ∧ ∀ i j, i ≤ m → j ≤ m → ∃ k, k ≤ m ∧ lcgI m i k = j
theorem rnd_old {m : Nat} (h : MaskOk m) : Rnd m := ⟨mask_odd h, fun _ _ hi hj => lcgI_all h hi hj⟩
def trip : Nat → Nat → List Nat
  | 0, _ => []
  | n + 1, x => x :: trip n ((x * 5 + 1) % 512)
theorem trip_at : ∀ (n x k : Nat), k < n → (trip n x)[k]? = some (lcgI 511 x k) := by
  have back : ∀ (k x : Nat), lcgI 511 ((x * 5 + 1) % 512) k = lcgI 511 x (k + 1) := fun k x => by
    induction k with
    | zero => rfl
    | succ k ih =>
      show (lcgI 511 ((x * 5 + 1) % 512) k * 5 + 1) % 512 = (lcgI 511 x (k + 1) * 5 + 1) % 512
      rw [ih]
  intro n
  induction n with
  | zero => intro x k hk; omega
  | succ n ih =>
    intro x k hk
    cases k with
    | zero => rfl
    | succ k =>
      show (trip n ((x * 5 + 1) % 512))[k]? = _
      rw [ih _ _ (by omega), back]
theorem trip_len : ∀ (n x : Nat), (trip n x).length = n
  | 0, _ => rfl
  | n + 1, x => by
    show (trip n _).length + 1 = n + 1
    rw [trip_len n]
theorem trip_whole : ((List.range 512).all fun j => (trip 512 0).contains j) = true := by decide +kernel
theorem trip_back : lcgI 511 0 512 = 0 := by decide +kernel
theorem rnd_511 : Rnd 511 := by
  have add : ∀ (m x a k : Nat), lcgI m (lcgI m x a) k = lcgI m x (a + k) := fun m x a k => by
    induction k with
    | zero => rfl
    | succ k ih =>
      show (lcgI m (lcgI m x a) k * 5 + 1) % (m + 1) = (lcgI m x (a + k) * 5 + 1) % (m + 1)
      rw [ih]
  have at0 : ∀ j, j ≤ 511 → ∃ k, k ≤ 511 ∧ lcgI 511 0 k = j := fun j hj => by
    have h := List.all_eq_true.mp trip_whole j (List.mem_range.mpr (by omega))
    obtain ⟨k, hk⟩ := List.getElem?_of_mem (List.contains_iff_mem.mp h)
    have kl := (List.getElem?_eq_some_iff.mp hk).1
    rw [trip_len] at kl
    rw [trip_at 512 0 k kl] at hk
    exact ⟨k, by omega, Option.some.inj hk⟩
  refine ⟨rfl, fun i j hi hj => ?_⟩
  obtain ⟨a, ha, rfl⟩ := at0 i hi
  obtain ⟨b, hb, rfl⟩ := at0 j hj
  by_cases c : a ≤ b
  · exact ⟨b - a, by omega, by rw [add, show a + (b - a) = b by omega]⟩
  · refine ⟨512 + b - a, by omega, ?_⟩
    rw [add, show a + (512 + b - a) = 512 + b by omega, ← add, trip_back]
theorem run_at {m : Nat} (R : Rnd m) (h : Int) {j : Nat} (hj : j ≤ m) : ∃ n, n ≤ m + 12 ∧ runI m (SetTable.bits h) n = j := by
  obtain ⟨k, h1, h2⟩ := R.2 _ j (runI_le m (SetTable.bits h) 12) hj
  refine ⟨12 + k, by omega, ?_⟩
  rw [runI_tail (bits_lt h), h2]
theorem step_at {m : Nat} (R : Rnd m) (h : Int) {j : Nat} (hj : j ≤ m) : ∃ k, k < 10 * SetTable.turns m ∧ way m h k = j := by
  obtain ⟨n, h1, h2⟩ := run_at R h hj
  obtain ⟨k, h3, h4⟩ := run_nth m (SetTable.bits h) n
  refine ⟨k, ?_, ?_⟩
  · show k < 10 * (m + 15)
    omega
  · show (nth m _ k).j = j
    rw [h4]; exact h2
theorem way_in {m : Nat} (h : Int) (k : Nat) : way m h k ≤ m := by
  have q : ∀ (n : Nat) (p : SetTable.Probe), p.j + p.more ≤ m → (nth m p n).j ≤ m := fun n p hp => Nat.le_trans (Nat.le_add_right _ _) (nth_in n p hp)
  refine q k _ ?_
  have hi : SetTable.bits h % (m + 1) ≤ m := Nat.le_of_lt_succ (Nat.mod_lt _ (Nat.succ_pos m))
  have := runEnd_bd hi
  show SetTable.bits h % (m + 1) + (SetTable.runEnd m (SetTable.bits h % (m + 1)) - SetTable.bits h % (m + 1)) ≤ m
  omega
structure Plc (t : SetTable) (n : Nat) : Prop where
  ris : Ris t.place.toList
  dm : t.dummies = #[]
  sz : t.place.size = n
  rnd : Rnd t.mask
theorem Plc.free {t : SetTable} {n : Nat} (P : Plc t n) (hn : n ≤ t.mask) (h : Int) : ∃ K, K < 10 * SetTable.turns t.mask ∧ way t.mask h K ∉ t.place.toList ∧ ∀ k, k < K → way t.mask h k ∈ t.place.toList := by
  obtain ⟨j, j1, j2⟩ := st_missing t.place.toList (t.mask + 1) (by rw [Array.length_toList, P.sz]; omega)
  obtain ⟨k, k1, rfl⟩ := step_at P.rnd h (show j ≤ t.mask by omega)
  obtain ⟨K, a, b, c⟩ := st_least (p := fun k => way t.mask h k ∉ t.place.toList) k j2
  exact ⟨K, by omega, b, fun k' hk => Classical.not_not.mp (c k' hk)⟩
theorem Plc.put {t : SetTable} {n j : Nat} (P : Plc t n) (hj : j ∉ t.place.toList) : Plc (t.put j).1 (n + 1) ∧ (t.put j).1.fill = n + 1 ∧ SetTable.below t.place j ≤ n := by
  obtain ⟨c, _, _⟩ := below_cut P.ris j
  rw [P.sz] at c
  have pl := put_place t j
  have ne : t.place[SetTable.below t.place j]? ≠ some j := fun e => hj (List.mem_of_getElem? (by rw [Array.getElem?_toList]; exact e))
  have sz : (t.put j).1.place.size = n + 1 := by
    rw [← Array.length_toList, pl, len_ins _ (by rw [Array.length_toList, P.sz]; exact c), Array.length_toList, P.sz]
  have d := put_dm P.dm j
  refine ⟨⟨ris_insert P.ris ne, d, sz, P.rnd⟩, ?_, c⟩
  show (t.put j).1.place.size + (t.put j).1.dummies.size = n + 1
  rw [sz, d]; rfl
structure Sit (m n : Nat) (o : Array (Option Nat)) : Prop where
  sz : o.size = m + 1
  all : ∀ k, k < n → ∃ j, j ≤ m ∧ oAt o j = some k
  few : ∃ l : List Nat, l.length = n ∧ ∀ j, j ≤ m → oAt o j ≠ none → j ∈ l
theorem sit_one {m n : Nat} {o : Array (Option Nat)} (R : Rnd m) (S : Sit m n o) (hn : n ≤ m) (h : Int) : ∃ j, SetTable.layClean.free m o (SetTable.turns m) (SetTable.bits h % (m + 1)) (SetTable.bits h) = some j ∧ Sit m (n + 1) (o.setIfInBounds j (some n)) := by
  obtain ⟨l, l1, l2⟩ := S.few
  obtain ⟨e, e1, e2⟩ := st_missing l (m + 1) (by omega)
  have e3 : oAt o e = none := Classical.not_not.mp fun z => e2 (l2 e (by omega) z)
  obtain ⟨r, r1, r2⟩ := run_at R h (show e ≤ m by omega)
  have r3 : way m h (off m (SetTable.bits h % (m + 1)) (SetTable.bits h) r) = e := by
    show (nth m _ _).j = e
    rw [nth_off, itL_run, r2]; rfl
  obtain ⟨K, a, b, c⟩ := st_least (p := fun k => oAt o (way m h k) = none) _ (by rw [r3]; exact e3)
  have occ : ∀ k, k < K → (oAt o (way m h k)).isNone = false := fun k hk => by
    have := c k hk
    revert this
    cases oAt o (way m h k) <;> simp
  have fs := free_spec m o (SetTable.turns m) r (SetTable.bits h % (m + 1)) (SetTable.bits h) K (by show r < m + 15; omega) a occ (by rw [show oAt o (nth m (runAt m (SetTable.bits h % (m + 1)) (SetTable.bits h)) K).j = none from b]; rfl)
  refine ⟨_, fs, ?_⟩
  have wl : way m h K ≤ m := way_in h K
  have wo : way m h K < o.size := by rw [S.sz]; omega
  have self := oAt_set_self (owner := o) (some n) wo
  refine ⟨by rw [Array.size_setIfInBounds, S.sz], fun k hk => ?_, way m h K :: l, by rw [List.length_cons, l1], fun j hj z => ?_⟩
  · by_cases q : k = n
    · exact ⟨_, wl, by rw [q]; exact self⟩
    · obtain ⟨j, j1, j2⟩ := S.all k (by omega)
      refine ⟨j, j1, ?_⟩
      rw [oAt_set_ne _ fun y => ?_]
      · exact j2
      · rw [y] at j2
        rw [show oAt o (way m h K) = none from b] at j2
        cases j2
  · by_cases q : j = way m h K
    · rw [q]; exact List.mem_cons_self
    · rw [oAt_set_ne _ q] at z
      exact List.mem_cons_of_mem _ (l2 j hj z)
theorem sit_fold {m : Nat} (R : Rnd m) : ∀ (hs : List Int) (n : Nat) (o : Array (Option Nat)), Sit m n o → n + hs.length ≤ m → ∃ o', hs.foldl (stepF m) (some (o, n)) = some (o', n + hs.length) ∧ Sit m (n + hs.length) o'
  | [], n, o, S, _ => ⟨o, rfl, S⟩
  | h :: hs, n, o, S, hl => by
    rw [List.length_cons] at hl
    obtain ⟨j, e, S1⟩ := sit_one R S (by omega) h
    obtain ⟨o', f, S2⟩ := sit_fold R hs (n + 1) _ S1 (by omega)
    rw [show n + 1 + hs.length = n + (h :: hs).length by rw [List.length_cons]; omega] at f S2
    refine ⟨o', ?_, S2⟩
    rw [List.foldl_cons, stepF_some e, f]
theorem laid {t : SetTable} {hs : Array Int} {wanted M : Nat} (R : Rnd M) (hw : SetTable.sizeAbove wanted - 1 = M) (hn : hs.size ≤ M) : ∃ t' order, t.relaid hs wanted = some (t', order) ∧ order.toList.Perm (List.range hs.size) ∧ Plc t' hs.size ∧ t'.mask = M ∧ t'.led = t.led ∧ t'.plain = t.plain := by
  have S0 : Sit M 0 (Array.replicate (M + 1) none) := ⟨by simp, fun k hk => by omega, [], rfl, fun j hj z => absurd (oAt_init hj) z⟩
  obtain ⟨o, f, S⟩ := sit_fold R hs.toList 0 _ S0 (by rw [Array.length_toList]; omega)
  have el : 0 + hs.toList.length = hs.size := by rw [Array.length_toList]; omega
  rw [el] at f S
  have lc : SetTable.layClean M hs = some o := by rw [layClean_eq, f]; rfl
  obtain ⟨q1, q2⟩ := ris_live (fun j => o.getD j none) (List.range (M + 1)) List.pairwise_lt_range
  obtain ⟨l, l1, l2⟩ := S.few
  have nd : ((liveOf M o).map (·.1)).Nodup := List.Pairwise.imp (fun h => Nat.ne_of_lt h) q1
  have up : (liveOf M o).length ≤ hs.size := by
    have := nat_nodup_len _ l nd fun x hx => by
      obtain ⟨⟨y, k⟩, hq, rfl⟩ := List.mem_map.mp hx
      obtain ⟨b1, b2⟩ := (mem_live S.sz).1 hq
      exact l2 y b1 (by rw [b2]; simp)
    rw [List.length_map] at this
    omega
  have ins : ∀ k, k < hs.size → k ∈ (liveOf M o).map (·.2) := fun k hk => by
    obtain ⟨j, j1, j2⟩ := S.all k hk
    exact List.mem_map.mpr ⟨(j, k), (mem_live S.sz).2 ⟨j1, j2⟩, rfl⟩
  have dn := nat_nodup_len (List.range hs.size) _ List.nodup_range fun k hk => ins k (List.mem_range.mp hk)
  rw [List.length_range, List.length_map] at dn
  refine ⟨tabOf t M o, ((liveOf M o).map (·.2)).toArray, ?_, ?_, ⟨q1, rfl, ?_, R⟩, rfl, rfl, rfl⟩
  · rw [relaid_eq, hw, lc]; rfl
  · exact perm_range hs.size _ (by show ((liveOf M o).map (·.2)).length = _; rw [List.length_map]; omega) ins
  · show ((liveOf M o).map (·.1)).toArray.size = _
    rw [List.size_toArray, List.length_map]
    omega
end TT
set_option Elab.async false
set_option linter.all false
set_option maxRecDepth 100000
set_option maxHeartbeats 4000000
namespace TT
open PySem PySem.Spec PyProof.Rows L2
section
variable {P : Program} {w : World} {A : Around} {E : Value → Shared → Prop} {s : Shared}
structure Bag (P : Program) (w : World) (g : Heap) (a : Addr) (B : List (Addr × List Int)) (rs : Array (Int × Value)) (ep : Nat) (t : SetTable) : Prop where
  obj : ∃ o, g.get? a = some o ∧ o.ExactSet ∧ o.data = .set rs ep t
  rows : rs.toList = rowsOf P w B
  plc : Plc t B.length
  one : (B.map (·.2)).Nodup
  tup : ∀ p ∈ B, IsT P w g p.2 p.1
  pl : t.plain = true
  ld : w.params.followText "set-order" = true ∨ t.led = true
  room : B.length * 5 < t.mask * 3
  msk : t.mask = 7 ∨ t.mask = 31 ∨ t.mask = 127 ∨ t.mask = 511
variable {a : Addr} {B : List (Addr × List Int)} {rs : Array (Int × Value)} {ep : Nat} {t : SetTable}
theorem rows_len (h : rs.toList = rowsOf P w B) : rs.size = B.length := by
  rw [← Array.length_toList, h]
  exact List.length_map _
theorem Bag.len (G : Bag P w s.heap a B rs ep t) : rs.size = B.length := rows_len G.rows
theorem fits_of (p : Plc t B.length) (hl : rs.size = B.length) (hr : B.length ≤ t.mask) : t.fits rs.size = true := by
  have e : t.fill = B.length := by
    show t.place.size + t.dummies.size = _
    rw [p.dm, p.sz]; rfl
  unfold SetTable.fits
  rw [e, p.sz, hl]
  simp [hr]
theorem Bag.fits (G : Bag P w s.heap a B rs ep t) : t.fits rs.size = true := fits_of G.plc G.len (by have := G.room; omega)
theorem row_at (h : rs.toList = rowsOf P w B) {i : Nat} {p : Addr × List Int} (hp : B[i]? = some p) : rs[i]? = some (thash P w p.2, Value.ref p.1) := by
  rw [← Array.getElem?_toList, h]
  show (B.map _)[i]? = _
  rw [List.getElem?_map, hp]; rfl
theorem search_new (G : Bag P w s.heap a B rs ep t) {x : Addr} {k : List Int} (hx : IsT P w s.heap k x) (hu : A.units < cLine) (hk : k ∉ B.map (·.2)) {K : Nat} (K1 : K < 10 * SetTable.turns t.mask)
    (K2 : way t.mask (thash P w k) K ∉ t.place.toList) (K3 : ∀ c, c < K → way t.mask (thash P w k) c ∈ t.place.toList) {Q : SetFound → Shared → Prop} (q : Q (.free (way t.mask (thash P w k) K) false) s) :
    ∀ (f c : Nat) (st : Option SetTable.Probe), st.getD (t.probeStart (thash P w k)) = nth t.mask (t.probeStart (thash P w k)) c → c ≤ K → K < c + f → wpAny (model P w) A (setSearchFrom a (.ref x) (thash P w k) true f st) Q E s := by
  obtain ⟨o, ho, hex, hd⟩ := G.obj
  have st0 : t.probeStart (thash P w k) = runAt t.mask (SetTable.bits (thash P w k) % (t.mask + 1)) (SetTable.bits (thash P w k)) := rfl
  intro f
  induction f with
  | zero => intro c st _ h1 h2; omega
  | succ f ih =>
    intro c st hst hc hf
    rw [setSearchFrom_succ]
    refine wpAny_bind (wpAny_setState_of ho hd G.fits ?_)
    dsimp only
    have ng : ¬ t.gaveWay = true := by
      unfold SetTable.gaveWay
      rw [G.plc.rnd.1]
      decide
    refine wp_if_neg ng ?_
    try refine wpAny_bind (wpAny_pure ?_)
    have dn : ∀ (n : Nat) (p : SetTable.Probe), p.dummy = none → (nth t.mask p n).dummy = none := fun n => by
      induction n with
      | zero => exact fun p h => h
      | succ n ih2 => exact fun p h => ih2 (adv t.mask p) (by unfold adv; split <;> exact h)
    have sh : ∀ d, nth t.mask (nth t.mask (t.probeStart (thash P w k)) c) d = nth t.mask (t.probeStart (thash P w k)) (c + d) := fun d => (nth_add t.mask c _ d).symm
    have jw : ∀ d, (nth t.mask (nth t.mask (t.probeStart (thash P w k)) c) d).j = way t.mask (thash P w k) (c + d) := fun d => by rw [sh]; rfl
    have eK : c + (K - c) = K := by omega
    have spec := go_spec t G.plc.ris G.plc.dm (fun i => (rs[i]?.map (·.1)).getD 0) (thash P w k) (10 * SetTable.turns t.mask) (K - c) (nth t.mask (t.probeStart (thash P w k)) c) (dn c _ rfl) (by omega) (fun d hd => by rw [jw]; exact K3 _ (by omega)) (by rw [jw, eK]; exact K2)
    have pe : ∀ r, SetTable.probe.go t (fun i => (rs[i]?.map (·.1)).getD 0) (thash P w k) (10 * SetTable.turns t.mask) (nth t.mask (t.probeStart (thash P w k)) c) = r → t.probe (fun i => (rs[i]?.map (·.1)).getD 0) (thash P w k) (st.getD (t.probeStart (thash P w k))) = r := fun r hr => by
      rw [hst]; exact hr
    rcases spec with ⟨d, i, d1, d2, _, _, d5⟩ | ⟨_, d5⟩
    · rw [pe _ d5]
      dsimp only
      rw [jw] at d2 ⊢
      have il : i < B.length := by
        have := (List.getElem?_eq_some_iff.mp d2).1
        rw [Array.length_toList, G.plc.sz] at this
        exact this
      obtain ⟨p, hp⟩ : ∃ p, B[i]? = some p := ⟨_, List.getElem?_eq_getElem il⟩
      have pm := List.mem_of_getElem? hp
      have ne : p.2 ≠ k := fun z => hk (List.mem_map.mpr ⟨p, pm, z⟩)
      have nb : decide (p.2 = k) = false := decide_eq_false ne
      have rest : wpAny (model P w) A (searchRest a (.ref x) (thash P w k) true f rs t (way t.mask (thash P w k) (c + d)) i (nth t.mask (nth t.mask (t.probeStart (thash P w k)) c) (d + 1))) Q E s := by
        unfold searchRest
        rw [row_at G.rows hp]
        dsimp only
        refine wpAny_bind (wpAny_holding (wpAny_eqBool_tuple hu (G.tup p pm) hx ?_))
        refine wpAny_bind (wpAny_setState_of ho hd G.fits ?_)
        dsimp only
        refine wp_if_neg (by simp [ne]) ?_
        try refine wpAny_bind (wpAny_pure ?_)
        rw [sameMem]
        dsimp only
        have sl : t.slot (way t.mask (thash P w k) (c + d)) = .live i := slot_live G.plc.ris d2
        simp only [if_true, sl, row_at G.rows hp]
        refine wpAny_bind (wpAny_isSame_ref_self (wpAny_bind (wpAny_pure ?_)))
        simp only [if_true]
        refine wp_if_neg (by simp [ne]) ?_
        exact ih (c + (d + 1)) _ (sh (d + 1)) (by omega) (by omega)
      by_cases hl : t.led = true
      · refine wp_if_neg (by simp [hl]) ?_
        try refine wpAny_bind (wpAny_pure ?_)
        exact rest
      · refine wp_if_pos (by simp [hl]) ?_
        refine wpAny_bind (seen_tup hx (fun y hy => ?_) ?_)
        · obtain ⟨e, he, rfl⟩ := List.mem_map.mp hy
          have e2 : e ∈ rs.toList := by
            have : e ∈ rs ∧ e.1 = thash P w k := by simpa using he
            simpa using this.1
          rw [G.rows] at e2
          obtain ⟨p2, hp2, rfl⟩ := List.mem_map.mp e2
          exact ⟨p2.2, p2.1, rfl, G.tup p2 hp2⟩
        · refine wp_if_neg (by decide) ?_
          try refine wpAny_bind (wpAny_pure ?_)
          exact rest
    · rw [pe _ d5]
      dsimp only
      rw [jw, eK]
      exact wpAny_pure q
theorem relay_new {o : Obj} (ho : s.heap.get? a = some o) (hex : o.ExactSet) (hd : o.data = .set rs ep t) (hrows : rs.toList = rowsOf P w B) (p : Plc t B.length) (hfl : B.length ≤ t.mask) (one : (B.map (·.2)).Nodup) (tup : ∀ p ∈ B, IsT P w s.heap p.2 p.1) (pl : t.plain = true)
    (ld : w.params.followText "set-order" = true ∨ t.led = true) {wanted M : Nat} (hw : SetTable.sizeAbove wanted - 1 = M) (R : Rnd M) (hM : M = 31 ∨ M = 127 ∨ M = 511) (hw2 : SetTable.sizeAbove wanted ≤ 512) (hn : B.length * 5 < M * 3) {Q : Unit → Shared → Prop}
    (q : ∀ g' B' rs' ep' t', Heap.SameBut a s.heap g' → Bag P w g' a B' rs' ep' t' → B'.Perm B → Q () { s with heap := g' }) : wpAny (model P w) A (setRelay a wanted) Q E s := by
  have len := rows_len hrows
  obtain ⟨t', ord, e, pm, p', m', l', n'⟩ := laid (t := t) (hs := rs.map (·.1)) R hw (by rw [Array.size_map, len]; omega)
  rw [Array.size_map, len] at pm p'
  obtain ⟨B2, r1, r2, _⟩ := order_rows B rs ord hrows pm
  have len2 := (rows_len r1).trans r2.length_eq
  rw [setRelay_eq]
  refine wpAny_bind (wpAny_setState_of ho hd (fits_of p len hfl) ?_)
  dsimp only
  refine wp_if_neg (by rw [sizeLine_eq]; omega) ?_
  try refine wpAny_bind (wpAny_pure ?_)
  rw [e]
  dsimp only
  refine wpAny_bind ?_
  refine wp_if_neg (by rw [len2, len]; simp) ?_
  try refine wpAny_bind (wpAny_pure ?_)
  refine wpAny_pure ?_
  dsimp only
  have bl := r2.length_eq
  refine wpAny_storeSet_of ho hd ?_ (by rw [len2, sizeLine_eq]; omega)
  have sb : Heap.SameBut a s.heap (s.heap.update a (Obj.putSet (ord.filterMap (rs[·]?)) t')) := Heap.SameBut.update ..
  refine q _ B2 _ (ep + 1) t' sb ⟨⟨_, store_at ho hd, ⟨hex.1, hex.2.1, hex.2.2⟩, rfl⟩, r1, by rw [bl]; exact p', (r2.map (·.2)).nodup_iff.mpr one, fun y hy => isT_same (tup y (r2.mem_iff.mp hy)) ho hd sb, n'.trans pl, by rw [l']; exact ld, by rw [bl, m']; exact hn, by rw [m']; omega⟩ r2
end
end TT
set_option Elab.async false
set_option linter.all false
set_option maxRecDepth 100000
set_option maxHeartbeats 4000000
namespace TT
open PySem PySem.Spec PyProof.Rows L2
theorem wide_5 : SetTable.sizeAbove (SetTable.grown 5) = 32 := by decide +kernel
theorem wide_19 : SetTable.sizeAbove (SetTable.grown 19) = 128 := by decide +kernel
theorem wide_77 : SetTable.sizeAbove (SetTable.grown 77) = 512 := by decide +kernel
section
variable {P : Program} {w : World} {A : Around} {E : Value → Shared → Prop} {s : Shared}
variable {a : Addr} {B : List (Addr × List Int)} {rs : Array (Int × Value)} {ep : Nat} {t : SetTable}
theorem add_new (G : Bag P w s.heap a B rs ep t) {x : Addr} {k : List Int} (hx : IsT P w s.heap k x) (hu : A.units < cLine) (hk : k ∉ B.map (·.2)) (hn : B.length + 1 < 307) {Q : Bool → Shared → Prop}
    (q : ∀ b g' B' rs' ep' t', Heap.SameBut a s.heap g' → Bag P w g' a B' rs' ep' t' → B'.Perm ((x, k) :: B) → Q b { s with heap := g' }) : wpAny (model P w) A (setAddHashed a (.ref x) (thash P w k)) Q E s := by
  obtain ⟨o, ho, hex, hd⟩ := G.obj
  have len := G.len
  have room := G.room
  have msk := G.msk
  obtain ⟨K, K1, K2, K3⟩ := G.plc.free (by omega) (thash P w k)
  have K4 : K < 100000 := by
    have : 10 * SetTable.turns t.mask = 10 * (t.mask + 15) := rfl
    omega
  unfold setAddHashed
  refine wpAny_holding ?_
  rw [show (100000 : Nat) = 99999 + 1 from rfl, setAddHashedIn_succ]
  refine wpAny_bind (wpAny_setState_of ho hd G.fits ?_)
  dsimp only
  refine wp_if_neg (by simp [byScan, Value.scannable]) ?_
  try refine wpAny_bind (wpAny_pure ?_)
  refine wpAny_bind ?_
  unfold setSearch
  refine search_new G hx hu hk K1 K2 K3 ?_ 100000 0 none rfl (Nat.zero_le _) (by omega)
  dsimp only
  refine wpAny_bind (wpAny_setState_of ho hd G.fits ?_)
  dsimp only
  obtain ⟨p1, p2, p3⟩ := G.plc.put K2
  have e0 : (t.put (way t.mask (thash P w k) K)).2 = SetTable.below t.place (way t.mask (thash P w k) K) := rfl
  have e1 : (t.put (way t.mask (thash P w k) K)).1.plain = true := G.pl
  have e2 : (t.put (way t.mask (thash P w k) K)).1.mask = t.mask := rfl
  have e3 : (t.put (way t.mask (thash P w k) K)).1.led = t.led := rfl
  generalize SetTable.below t.place (way t.mask (thash P w k) K) = c at e0 p3
  generalize t.put (way t.mask (thash P w k) K) = pt at e0 e1 e2 e3 p1 p2 ⊢
  obtain ⟨t1, c'⟩ := pt
  dsimp only at e0 e1 e2 e3 p1 p2 ⊢
  subst e0
  first
    | (refine wpAny_bind ?_; refine wp_if_pos e1 ?_; refine hashBy_tup hx ?_)
    | refine wp_if_pos e1 (wpAny_bind (hashBy_tup hx ?_))
  simp only [if_true]
  have rin : (SetTable.insertAt rs c' (thash P w k, Value.ref x)).toList = rowsOf P w (B.take c' ++ (x, k) :: B.drop c') := by
    rw [SetTable.toList_insertAt, rows_put, G.rows]
  have pm := put_perm B c' (x, k)
  have bl : (B.take c' ++ (x, k) :: B.drop c').length = B.length + 1 := pm.length_eq
  have one1 : ((B.take c' ++ (x, k) :: B.drop c').map (·.2)).Nodup := by
    rw [(pm.map (·.2)).nodup_iff]
    exact List.nodup_cons.mpr ⟨hk, G.one⟩
  have len1 := (rows_len rin).trans bl
  generalize SetTable.insertAt rs c' (thash P w k, Value.ref x) = rs1 at rin len1 ⊢
  generalize B.take c' ++ (x, k) :: B.drop c' = B1 at pm bl one1 rin
  refine wpAny_bind (wpAny_storeSet_of ho hd ?_ (by rw [len1, sizeLine_eq]; omega))
  have sb : Heap.SameBut a s.heap (s.heap.update a (Obj.putSet rs1 t1)) := Heap.SameBut.update ..
  have ho1 := store_at (es' := rs1) (t' := t1) ho hd
  generalize s.heap.update a (Obj.putSet rs1 t1) = g1 at sb ho1 ⊢
  have tup1 : ∀ p ∈ B1, IsT P w g1 p.2 p.1 := fun p hp => by
    rcases List.mem_cons.mp (pm.mem_iff.mp hp) with rfl | hp
    · exact isT_same hx ho hd sb
    · exact isT_same (G.tup p hp) ho hd sb
  have ld1 : w.params.followText "set-order" = true ∨ t1.led = true := by rw [e3]; exact G.ld
  have full : t1.tooFull = true ↔ t.mask * 3 ≤ (B.length + 1) * 5 := by
    unfold SetTable.tooFull
    rw [decide_eq_true_eq, p2, e2]
  by_cases hf : t1.tooFull = true
  · first
      | (refine wpAny_bind ?_; refine wp_if_pos (by simp [hf]) ?_)
      | (refine wp_if_pos (by simp [hf]) ?_; refine wpAny_bind ?_)
    have hf2 := full.mp hf
    rw [len]
    have go : ∀ M, SetTable.sizeAbove (SetTable.grown (B.length + 1)) = M + 1 → Rnd M → (M = 31 ∨ M = 127 ∨ M = 511) → (B.length + 1) * 5 < M * 3 → wpAny (model P w) A (setRelay a (SetTable.grown (B.length + 1))) (fun _ s' => wpAny (model P w) A (pure true) Q E s') E { s with heap := g1 } := fun M h1 h2 h3 h4 => by
      refine relay_new (s := { s with heap := g1 }) ho1 ⟨hex.1, hex.2.1, hex.2.2⟩ rfl rin (by rw [bl]; exact p1) (by rw [bl, e2]; omega) one1 tup1 e1 ld1 (by rw [h1]; rfl) h2 h3 (by rw [h1]; omega) (by rw [bl]; exact h4) fun g2 B2 rs2 ep2 t2 sb2 G2 pm2 => ?_
      exact wpAny_pure (q true g2 B2 rs2 ep2 t2 (sb.trans sb2) G2 (pm2.trans pm))
    rcases msk with e | e | e | e
    · have z : B.length = 4 := by rw [e] at hf2 room; omega
      exact go 31 (by rw [z]; exact wide_5) (rnd_old (.inr (.inl rfl))) (.inl rfl) (by omega)
    · have z : B.length = 18 := by rw [e] at hf2 room; omega
      exact go 127 (by rw [z]; exact wide_19) (rnd_old (.inr (.inr rfl))) (.inr (.inl rfl)) (by omega)
    · have z : B.length = 76 := by rw [e] at hf2 room; omega
      exact go 511 (by rw [z]; exact wide_77) rnd_511 (.inr (.inr rfl)) (by omega)
    · exfalso
      rw [e] at hf2
      omega
  · first
      | refine wp_if_neg (by simp [hf]) ?_
      | (refine wpAny_bind ?_; refine wp_if_neg (by simp [hf]) ?_; refine wpAny_pure ?_)
    have hf2 : ¬ t.mask * 3 ≤ (B.length + 1) * 5 := fun z => hf (full.mpr z)
    exact wpAny_pure (q true g1 B1 rs1 (ep + 1) t1 sb ⟨⟨_, ho1, ⟨hex.1, hex.2.1, hex.2.2⟩, rfl⟩, rin, by rw [bl]; exact p1, one1, tup1, e1, ld1, by rw [bl, e2]; omega, by rw [e2]; exact msk⟩ pm)
theorem Bag.keep {g g' : Heap} (G : Bag P w g a B rs ep t) (ha : ∀ o, g.get? a = some o → g'.get? a = some o) (ht : ∀ p ∈ B, IsT P w g' p.2 p.1) : Bag P w g' a B rs ep t := by
  obtain ⟨o, ho, r⟩ := G.obj
  exact { G with obj := ⟨o, ha o ho, r⟩, tup := ht }
theorem bag_new {g : Heap} (ho : g.get? a = some { cls := .type "set", dict := none, data := .set #[] 0 (.fresh 0 0 (!w.params.followText "set-order")) }) : Bag P w g a [] #[] 0 (.fresh 0 0 (!w.params.followText "set-order")) where
  obj := ⟨_, ho, ⟨rfl, rfl, rfl⟩, rfl⟩
  rows := rfl
  plc := ⟨List.Pairwise.nil, rfl, rfl, rnd_old (.inl rfl)⟩
  one := List.nodup_nil
  tup := fun p hp => by cases hp
  pl := rfl
  ld := by
    by_cases c : w.params.followText "set-order" = true
    · exact .inl c
    · refine .inr ?_
      show (!w.params.followText "set-order") = true
      simp [c]
  room := by
    show 0 * 5 < 7 * 3
    omega
  msk := .inl rfl
end
end TT
set_option Elab.async false
set_option linter.all false
set_option maxRecDepth 100000
set_option maxHeartbeats 4000000
namespace TT
open PySem PySem.Spec PyProof.Rows L2
section
variable {P : Program} {w : World} {A : Around} {E : Value → Shared → Prop} {s : Shared}
structure Upto (ks : List (Addr × List Int)) (i : Nat) (B : List (Addr × List Int)) : Prop where
  perm : B.Perm (ks.take i)
theorem upto_next {ks B B' : List (Addr × List Int)} {i : Nat} {p : Addr × List Int} (U : Upto ks i B) (hp : ks[i]? = some p) (pm : B'.Perm (p :: B)) : Upto ks (i + 1) B' :=
  ⟨by
    rw [take_next hp]
    exact pm.trans ((U.perm.cons p).trans (List.perm_append_singleton p _).symm)⟩
theorem fill {I : Addr} {fp wr : List Addr} {G : Array GenState → Array GenState → Prop} {n : Nat} {Pv : Nat → Value → Prop} {St : Nat → Shared → Prop} {R : Result → Shared → Prop}
    (W : WalksS P w A.in1 I fp wr G n Pv St) (S : Addr) (nS : S ∉ fp) (ks : List (Addr × List Int)) (hn : n = ks.length) (few : ks.length < 307) (one : (ks.map (·.2)).Nodup) (val : ∀ i v, Pv i v → ∃ p, ks[i]? = some p ∧ v = .ref p.1)
    (g0 : Heap) (hk : ∀ p ∈ ks, IsT P w g0 p.2 p.1) (z0 : g0.get? S = none) (zw : ∀ b ∈ wr, g0.get? b = none) (hu : A.in1.units < cLine) :
    ∀ (d i : Nat) (s : Shared), i + d = n → St i s → (∀ b o, g0.get? b = some o → s.heap.get? b = some o) → (∃ B rs ep t, Bag P w s.heap S B rs ep t ∧ Upto ks i B) →
      (∀ s' B rs ep t, Moved (S :: wr) G s s' → Bag P w s'.heap S B rs ep t → Upto ks n B → (∀ b o, g0.get? b = some o → s'.heap.get? b = some o) → R (.ok (.ret .none)) s') →
      codeAny (model P w) A (.builtin "set.update.loop" ⟨[.ref S, .ref I], []⟩) R s := by
  have nw : S ∉ wr := fun z => nS (W.sub _ z)
  have more : ∀ b ∈ wr, b ∈ S :: wr := fun b hb => List.mem_cons_of_mem _ hb
  have keep : ∀ {s s' : Shared}, Moved wr G s s' → (∀ b o, g0.get? b = some o → s.heap.get? b = some o) → ∀ b o, g0.get? b = some o → s'.heap.get? b = some o := fun m k b o e =>
    m.heap b o (fun z => by rw [zw b z] at e; cases e) (k b o e)
  have mem : ∀ {i : Nat} {B : List (Addr × List Int)}, Upto ks i B → ∀ p ∈ B, p ∈ ks := fun U p hp => List.mem_of_mem_take (U.perm.mem_iff.mp hp)
  intro d
  induction d with
  | zero =>
    intro i s hi hst k ⟨B, rs, ep, t, hB, U⟩ hR
    obtain rfl : i = n := by omega
    refine codeAny_builtin F.entry_set_update_loop ?_
    rw [Around.under_plainId F.plain_set_update_loop _]
    show wpAny _ A.in1 (pyNext (.ref I) >>= _) _ _ s
    refine wpAny_bind (W.done s _ _ hst fun s' m => ?_)
    have k' := keep m k
    exact wpAny_pure (hR s' B rs ep t (m.mono more) (hB.keep (fun o e => m.heap S o nw e) fun p hp => isT_keep (hk p (mem U p hp)) k') U k')
  | succ d ih =>
    intro i s hi hst k ⟨B, rs, ep, t, hB, U⟩ hR
    refine codeAny_builtin F.entry_set_update_loop ?_
    rw [Around.under_plainId F.plain_set_update_loop _]
    show wpAny _ A.in1 (pyNext (.ref I) >>= _) _ _ s
    refine wpAny_bind (W.item i s _ _ (by omega) hst fun v s' hP hst' m => ?_)
    obtain ⟨p, hp, rfl⟩ := val i v hP
    have k' := keep m k
    have hB' : Bag P w s'.heap S B rs ep t := hB.keep (fun o e => m.heap S o nw e) fun q hq => isT_keep (hk q (mem U q hq)) k'
    have hx : IsT P w s'.heap p.2 p.1 := isT_keep (hk p (List.mem_of_getElem? hp)) k'
    have il := (List.getElem?_eq_some_iff.mp hp).1
    have bl : B.length = i := by rw [U.perm.length_eq, List.length_take]; omega
    have new : p.2 ∉ B.map (·.2) := fun z => by
      rw [(U.perm.map (·.2)).mem_iff] at z
      have nd := one
      rw [← List.take_append_drop (i + 1) ks, take_next hp, List.map_append, List.map_append] at nd
      exact (List.nodup_append.mp (List.nodup_append.mp nd).1).2.2 p.2 z p.2 (by simp) rfl
    show wpAny _ A.in1 (holding [Value.ref p.1] (setAdd S (.ref p.1)) >>= _) _ _ s'
    refine wpAny_bind (wpAny_holding ?_)
    unfold setAdd
    refine wpAny_holding ?_
    refine wpAny_bind (wpAny_pyHash_tuple hu hx ?_)
    refine add_new (s := { s' with toks := s'.toks + (p.2.length + 1) }) hB' hx hu new (by omega) fun b g' B' rs' ep' t' sb hB2 pm => ?_
    have k2 : ∀ b o, g0.get? b = some o → g'.get? b = some o := fun b o e => (sb.2 b (fun z => by rw [z, z0] at e; cases e)).trans (k' b o e)
    refine wpAny_pure ⟨plainId_quiet F.plain_set_update_loop _, ih (i + 1) _ (by omega) (W.frame _ s' _ _ hst' (Nat.le_add_right _ _) fun b hb o e => ?_) k2 ⟨B', rs', ep', t', hB2, upto_next U hp pm⟩ fun s2 B2 rs2 ep2 t2 m2 hB3 U2 k3 => ?_⟩
    · exact (sb.2 b fun z => nS (z ▸ hb)).trans e
    · exact hR s2 B2 rs2 ep2 t2 (Moved.trans W.gtrans ((m.mono more).then_heap (Nat.le_add_right _ _) fun b o hb e => (sb.2 b fun z => hb (by rw [z]; exact List.mem_cons_self)).trans e) m2) hB3 U2 k3
end
end TT
set_option Elab.async false
set_option linter.all false
set_option maxRecDepth 100000
set_option maxHeartbeats 4000000
namespace TT
open PySem PySem.Spec PyProof.Rows L2
abbrev newO (w : World) : Obj := { cls := .type "set", dict := none, data := .set #[] 0 (.fresh 0 0 (!w.params.followText "set-order")) }
section
variable {P : Program} {w : World} {A : Around} {E : Value → Shared → Prop} {s : Shared}
set_option maxHeartbeats 3200000 in
theorem call_bag {x : Addr} {its : Array Value} (ks : List (Addr × List Int)) {Q : Value → Shared → Prop} (a0 : A.handled = none) (hx : s.heap.IsList x its) (hi : its.toList = ks.map fun p => Value.ref p.1) (hk : ∀ p ∈ ks, IsT P w s.heap p.2 p.1) (few : ks.length < 307) (one : (ks.map (·.2)).Nodup) (hu : A.units + 3 < cLine)
    (q : ∀ (g : Heap) (tk : Nat) B rs ep t, Bag P w g s.heap.objs.size B rs ep t → B.length = ks.length → (∀ b o, s.heap.get? b = some o → g.get? b = some o) → Q (.ref s.heap.objs.size) { s with heap := g, toks := tk }) :
    wpAny (model P w) A (call (.type "set") [.ref x]) Q E s := by
  have len : its.size = ks.length := by rw [← Array.length_toList, hi, List.length_map]
  obtain ⟨c0, c1, mro⟩ := F.called_set.mro
  have made := F.called_set.made
  have sub := F.called_set.sub
  refine wpAny_call (codeAny_of_tree ?_)
  show wpAny _ _ (callAny (.type "set") _) _ _ s
  refine wpAny_pure ⟨Code.quiet_builtin _ (by decide +kernel), codeAny_builtin F.entry_type_call ?_⟩
  rw [Around.under_plain (weight_type_call_type "set" [.ref x] []) rfl]
  have z1 := F.called_set.notType
  have z2 := F.called_set.canCreate
  have z3 := F.typeCall_set_1 (.ref x)
  repeat (any_goals (first | assumption | wp_step))
  refine codeAny_mono (code_set_led1 (.ref x) (E := E) (Q₁ := fun ob t => ob = .ref s.heap.objs.size ∧ t = { s with heap := s.heap.push (newO w) }) ⟨rfl, rfl⟩) fun r1 t1 q1 => ?_
  cases r1 with
  | error e => exact q1
  | ok f1 =>
    cases f1 with
    | ret ob =>
      obtain ⟨rfl, rfl⟩ := q1
      have new : (s.heap.push (newO w)).get? s.heap.objs.size = some (newO w) := Heap.get?_push_size _ rfl
      have ty : Shared.TypeIs { s with heap := s.heap.push (newO w) } (.ref s.heap.objs.size) "set" := ⟨_, new, rfl⟩
      have z4 := F.called_set.init.lookup
      have z5 := F.called_set.init.bind (.ref s.heap.objs.size)
      repeat (any_goals (first | assumption | wp_step))
      refine codeAny_mono (codeAny_call_builtin (R := wants (fun v t => v = .none ∧ ∃ g tk B rs ep tb, t = { s with heap := g, toks := tk } ∧ Bag P w g s.heap.objs.size B rs ep tb ∧ B.length = ks.length ∧
          (∀ b o, s.heap.get? b = some o → g.get? b = some o)) E) F.called_set.init.plain F.entry_set_init (check_set_init_1 ty ?_)) fun r2 t2 q2 => ?_
      · obtain ⟨ox, gx, cx, nx, dx⟩ := hx
        obtain ⟨oc, od, odt, osl⟩ := ox
        simp only at cx dx
        subst cx; subst dx
        have gx' : (s.heap.push (newO w)).get? x = some { cls := .type "list", dict := od, data := .seq its nx, slots := osl } := Heap.get?_push_of_some _ gx
        have z6 := F.sub_list_set
        have z7 := F.sub_list_frozenset
        have z8 : (Value.type "list" == Value.type "dict") = false := by decide
        have lx : (s.heap.push (newO w)).IsList x its := ⟨_, gx', rfl, nx, rfl⟩
        unfold Builtin.«set.__init__» noKeywords Builtin.Frozenset.updateFrom
        generalize hPI : pyIter = PI
        wp_walk
        subst hPI
        refine wpAny_pyIter_list lx (wpAny_bind (wpAny_runValue ?_))
        have below : x < s.heap.objs.size := Heap.lt_size gx
        have a3 : A.in1.in1.in1.handled = none := by simp [a0]
        have szz : (s.heap.push (newO w)).objs.size = s.heap.objs.size + 1 := Heap.size_push ..
        have nI : x ≠ (s.heap.push (newO w)).objs.size := by
          rw [szz]
          exact Nat.ne_of_lt (Nat.lt_succ_of_lt below)
        have nS : s.heap.objs.size ∉ [(s.heap.push (newO w)).objs.size, x] := by
          rw [szz]
          simp only [List.mem_cons, List.not_mem_nil, or_false, not_or]
          exact ⟨Nat.ne_of_lt (Nat.lt_succ_self _), Nat.ne_of_gt below⟩
        have val : ∀ (i : Nat) (v : Value), its[i]? = some v → ∃ p, ks[i]? = some p ∧ v = .ref p.1 := fun i v hv => by
          rw [← Array.getElem?_toList, hi, List.getElem?_map] at hv
          obtain ⟨p, hp, rfl⟩ := Option.map_eq_some_iff.mp hv
          exact ⟨p, hp, rfl⟩
        have gone : ∀ b, s.heap.objs.size ≤ b → s.heap.get? b = none := fun b hb => by
          rcases Option.eq_none_or_eq_some (s.heap.get? b) with e | ⟨o, e⟩
          · exact e
          · exact absurd (Heap.lt_size e) (Nat.not_lt.mpr hb)
        refine fill ((Walks.list a3 _ x nI its).toS) s.heap.objs.size nS ks len few one val s.heap hk (gone _ (Nat.le_refl _)) (fun b hb => gone b (by
          rw [List.mem_singleton.mp hb, szz]
          omega)) hu its.size 0 _ (by omega) ⟨⟨_, Heap.get?_push_size _ rfl, rfl, rfl⟩, lx.push _⟩ (fun b o e => Heap.get?_push_of_some _ (Heap.get?_push_of_some _ e)) ⟨[], #[], 0, _, bag_new (Heap.get?_push_of_some _ new), ⟨List.Perm.refl _⟩⟩ ?_
        intro t B rs ep tb hm hB U hkp
        obtain ⟨g, gn, dr, tk, oo⟩ := t
        have e1 : gn = s.gens := hm.gens
        have e2 : dr = s.drawn := hm.drawn
        have e3 : oo = s.os := hm.os
        subst e1; subst e2; subst e3
        refine wpAny_pure ?_
        show wpAny _ _ (ret Value.none) _ _ _
        have bl : B.length = ks.length := by rw [U.perm.length_eq, len, List.take_length]
        exact wpAny_pure ⟨rfl, g, tk, B, rs, ep, tb, rfl, hB, bl, hkp⟩
      · cases r2 with
        | error e => exact q2
        | ok f2 =>
          cases f2 with
          | ret v =>
            obtain ⟨rfl, g, tk, B, rs, ep, tb, rfl, hB, bl, hkp⟩ := q2
            repeat (any_goals (first | assumption | wp_step))
            exact q _ _ _ _ _ _ hB bl hkp
          | _ => exact q2.elim
    | _ => exact q1.elim
end
end TT
set_option Elab.async false
set_option linter.all false
set_option maxRecDepth 100000
set_option maxHeartbeats 1000000
namespace EE
open PySem PySem.Spec PyProof.Rows L2
def nodupB (l : List (Int × Int)) : Bool := match l with
  | [] => true
  | p :: r => !(r.contains p) && nodupB r
theorem nodupB_iff : ∀ {l : List (Int × Int)}, nodupB l = true ↔ l.Nodup
  | [] => by simp [nodupB]
  | p :: r => by
    rw [nodupB, Bool.and_eq_true, nodupB_iff, List.nodup_cons]
    simp
theorem nat_le_of_nodup {α : Type} [DecidableEq α] : ∀ {l m : List α}, l.Nodup → (∀ x ∈ l, x ∈ m) → l.length ≤ m.length
  | [], _, _, _ => Nat.zero_le _
  | x :: l, m, hn, hs => by
    obtain ⟨h1, h2⟩ := List.nodup_cons.mp hn
    have hx := hs x List.mem_cons_self
    have ih := nat_le_of_nodup (l := l) (m := m.erase x) h2 fun y hy => (List.mem_erase_of_ne (show y ≠ x from fun e => h1 (e ▸ hy))).2 (hs y (List.mem_cons_of_mem _ hy))
    have := List.length_erase_of_mem hx
    have := List.length_pos_of_mem hx
    rw [List.length_cons]
    omega
abbrev setLim : Nat := 307
def dLenSetP (a : DE) : DE := fun es h => (a es h).bind fun x h1 => match x with
  | .ref n => match lstAt h1 n with
    | some xs => match pairsE xs with
      | some l => if nodupB l && decide (l.length < setLim) = true then .ok (.int l.length) h1 else .no
      | none => .no
    | none => .no
  | _ => .no
def tLenSetP (K : Fg) (ta : TE) : TE := fun σ H Q => ta σ H fun x H1 => ∃ (l : Addr) (ks : List (Addr × List Int)), x = V.ref l ∧ SqL K H1 l (ks.map fun p => V.ref p.1) ∧ (∀ p ∈ ks, SqT K H1 p.1 (p.2.map V.int)) ∧ ks.length < setLim ∧ (ks.map (·.2)).Nodup ∧ Q (.int ks.length) H1
abbrev emO (w : World) : Obj := { cls := .type "set", dict := none, data := .set #[] 0 (.fresh 0 0 (!w.params.followText "set-order")) }
section
variable {P : Program} {w : World} {A : Around} {E : Value → Shared → Prop} {s : Shared}
set_option maxHeartbeats 3200000 in
theorem call_setL {x : Addr} {its : Array Value} (ns : List Int) {Q : Value → Shared → Prop} (a0 : A.handled = none) (hx : s.heap.IsList x its) (hi : IntsAre its.toList ns) (room : ns.length + 1 < scanBound)
    (k : ∀ (g : Heap) (tk n : Nat), SetR w g s.heap.objs.size (fun j => decide (j ∈ ns)) n → n ≤ ns.length → (∀ b o, s.heap.get? b = some o → g.get? b = some o) → Q (.ref s.heap.objs.size) { s with heap := g, toks := tk }) :
    wpAny (model P w) A (call (.type "set") [.ref x]) Q E s := by
  have len : its.size = ns.length := by rw [← Array.length_toList]; exact IntsAre.length hi
  obtain ⟨c0, c1, mro⟩ := F.called_set.mro
  have made := F.called_set.made
  have sub := F.called_set.sub
  refine wpAny_call (codeAny_of_tree ?_)
  show wpAny _ _ (callAny (.type "set") _) _ _ s
  refine wpAny_pure ⟨Code.quiet_builtin _ (by decide +kernel), codeAny_builtin F.entry_type_call ?_⟩
  rw [Around.under_plain (weight_type_call_type "set" [.ref x] []) rfl]
  have z1 := F.called_set.notType
  have z2 := F.called_set.canCreate
  have z3 := F.typeCall_set_1 (.ref x)
  repeat (any_goals (first | assumption | wp_step))
  refine codeAny_mono (code_set_led1 (.ref x) (E := E) (Q₁ := fun ob t => ob = .ref s.heap.objs.size ∧ t = { s with heap := s.heap.push (emO w) }) ⟨rfl, rfl⟩) fun r1 t1 q1 => ?_
  cases r1 with
  | error e => exact q1
  | ok f1 =>
    cases f1 with
    | ret ob =>
      obtain ⟨rfl, rfl⟩ := q1
      have new : (s.heap.push (emO w)).get? s.heap.objs.size = some (emO w) := Heap.get?_push_size _ rfl
      have ty : Shared.TypeIs { s with heap := s.heap.push (emO w) } (.ref s.heap.objs.size) "set" := ⟨_, new, rfl⟩
      have z4 := F.called_set.init.lookup
      have z5 := F.called_set.init.bind (.ref s.heap.objs.size)
      repeat (any_goals (first | assumption | wp_step))
      refine codeAny_mono (codeAny_call_builtin (R := wants (fun v t => v = .none ∧ ∃ g tk n, t = { s with heap := g, toks := tk } ∧ SetR w g s.heap.objs.size (fun j => decide (j ∈ ns)) n ∧ n ≤ ns.length ∧
          (∀ b o, s.heap.get? b = some o → g.get? b = some o)) E) F.called_set.init.plain F.entry_set_init (check_set_init_1 ty ?_)) fun r2 t2 q2 => ?_
      · obtain ⟨ox, gx, cx, nx, dx⟩ := hx
        obtain ⟨oc, od, odt, osl⟩ := ox
        simp only at cx dx
        subst cx; subst dx
        have gx' : (s.heap.push (emO w)).get? x = some { cls := .type "list", dict := od, data := .seq its nx, slots := osl } := Heap.get?_push_of_some _ gx
        have z6 := F.sub_list_set
        have z7 := F.sub_list_frozenset
        have z8 : (Value.type "list" == Value.type "dict") = false := by decide
        have lx : (s.heap.push (emO w)).IsList x its := ⟨_, gx', rfl, nx, rfl⟩
        unfold Builtin.«set.__init__» noKeywords Builtin.Frozenset.updateFrom
        generalize hPI : pyIter = PI
        wp_walk
        subst hPI
        refine wpAny_pyIter_list lx (wpAny_bind (wpAny_runValue ?_))
        have below : x < s.heap.objs.size := Heap.lt_size gx
        have a3 : A.in1.in1.in1.handled = none := by simp [a0]
        have szz : (s.heap.push (emO w)).objs.size = s.heap.objs.size + 1 := Heap.size_push ..
        have nI : x ≠ (s.heap.push (emO w)).objs.size := by
          rw [szz]
          exact Nat.ne_of_lt (Nat.lt_succ_of_lt below)
        have nS : s.heap.objs.size ∉ [(s.heap.push (emO w)).objs.size, x] := by
          rw [szz]
          simp only [List.mem_cons, List.not_mem_nil, or_false, not_or]
          exact ⟨Nat.ne_of_lt (Nat.lt_succ_self _), Nat.ne_of_gt below⟩
        have val : ∀ (i : Nat) (v : Value), its[i]? = some v → ∃ n t, ns[i]? = some n ∧ v = .int n t := fun i v hv => by
          have il : i < ns.length := by rw [← len]; exact (Array.getElem?_eq_some_iff.mp hv).1
          obtain ⟨t, e⟩ := IntsAre.int_at hi i v (by rw [Array.getElem?_toList]; exact hv)
          exact ⟨ns[i], t, List.getElem?_eq_getElem il, by rw [e, List.getD_eq_getElem?_getD, List.getElem?_eq_getElem il]; rfl⟩
        refine set_update_ints ((Walks.list a3 _ x nI its).toS) s.heap.objs.size nS ns len room val (its.size - 0) 0 _ (by omega) (Nat.zero_le _) ⟨⟨_, Heap.get?_push_size _ rfl, rfl, rfl⟩, lx.push _⟩ ⟨0, Nat.le_refl 0, setR_new_at (Heap.get?_push_of_some _ new)⟩ ?_
        intro t n hm hn hS
        obtain ⟨g, gn, dr, tk, oo⟩ := t
        have e1 : gn = s.gens := hm.gens
        have e2 : dr = s.drawn := hm.drawn
        have e3 : oo = s.os := hm.os
        subst e1; subst e2; subst e3
        rw [len] at hn
        refine wpAny_pure ?_
        show wpAny _ _ (ret Value.none) _ _ _
        refine wpAny_pure ⟨rfl, g, tk, n, rfl, hS, hn, fun b o e => ?_⟩
        have hb := Heap.lt_size e
        refine hm.heap b o ?_ (Heap.get?_push_of_some _ (Heap.get?_push_of_some _ e))
        rw [szz]
        simp only [List.mem_cons, List.not_mem_nil, or_false, not_or]
        exact ⟨Nat.ne_of_lt hb, Nat.ne_of_lt (Nat.lt_succ_of_lt hb)⟩
      · cases r2 with
        | error e => exact q2
        | ok f2 =>
          cases f2 with
          | ret v =>
            obtain ⟨rfl, g, tk, n, rfl, hS, hn, hk⟩ := q2
            repeat (any_goals (first | assumption | wp_step))
            exact k _ _ _ hS hn hk
          | _ => exact q2.elim
    | _ => exact q1.elim
end
end EE
set_option Elab.async false
set_option linter.all false
set_option maxRecDepth 100000
set_option maxHeartbeats 1000000
namespace EE
open PySem PySem.Spec PyProof.Rows L2
section
variable {X : Cx} {ct : Nat → Addr × List Str} {E : XK} {G : Gx} {a : Expr} {da : DE}
theorem pe_lenSetP {ta : TE} {p p2 q pos : Pos} (hc : X.calm = true) (hu : X.A.units + 64 < cLine) (hg : Gl X "len") (hm : X.mg "len" = none) (hg2 : Gl X "set") (hm2 : X.mg "set" = none) (ha : PE X a ta)
    (na : starEach [a] X.env = (false, eval a X.env) :: starEach [] X.env := by rfl) : PE X (.Call (.Name "len" p) [.Call (.Name "set" p2) [a] [] q] [] pos) (tLenSetP X.K ta) := by
  refine ⟨fun pins s σ H Q I h => ?_⟩
  refine Call_ (ld_blt I hg hm PySem.boot_len ?_)
  refine callWith_builtin1 (args_cons ?_ rfl) rfl rfl
  refine Call_ (ld_blt I hg2 hm2 boot_set ?_)
  refine callWith_type1 (args_cons (thn (ha.run pins s σ H _ I h) fun v s1 ⟨x, H1, I1, r1, q1⟩ => args_nil ?_) na) na rfl
  obtain ⟨l, ks, rfl, hq, hk, hf, hnd, q1⟩ := q1
  cases r1
  obtain ⟨its, rv, pl, hz⟩ := I1.list hq
  refine TT.call_bag (P := X.prog) (w := X.w) ks (I1.ok.hd hc) pl.isList (by simpa using refs_of_vals rv) (fun p hp => I1.isT (hk p hp)) hf hnd (by omega) fun h' tk B rs ep t R hlen k => ?_
  refine args_nil ?_
  obtain ⟨o, ho, hex, hd⟩ := R.obj
  have I2 : Inv X pins σ H1 { s1 with heap := h', toks := tk } := I1.kept k
  have hsz : rs.size = B.length := TT.Bag.len (s := { s1 with heap := h', toks := tk }) R
  refine call_len_set ho hex hd (TT.Bag.fits (s := { s1 with heap := h', toks := tk }) R) (by rw [hsz, hlen]; unfold setLim at hf; omega) ⟨.int ks.length, H1, I2.tok _, ⟨_, by rw [hsz, hlen]⟩, q1⟩
theorem xe_lenSetP {p p2 q pos : Pos} (hc : X.calm = true) (hu : X.A.units + 64 < cLine) (hg : Gl X "len") (hm : X.mg "len" = none) (hg2 : Gl X "set") (hm2 : X.mg "set" = none) (ha : PEd X ct E a da)
    (na : starEach [a] X.env = (false, eval a X.env) :: starEach [] X.env := by rfl) : PEd X ct E (.Call (.Name "len" p) [.Call (.Name "set" p2) [a] [] q] [] pos) (dLenSetP da) := by
  obtain ⟨t, h1, h2⟩ := ha
  refine ⟨_, pe_lenSetP hc hu hg hm hg2 hm2 h1 na, fun ρ σ H es eh Q rel h => ?_⟩
  refine h2.bind rel h fun ρ1 H1 x eh1 u e1 rel1 v1 h1 => ?_
  split at h1
  · rename_i n
    split at h1
    · rename_i xs e2
      split at h1
      · rename_i l e3
        split at h1
        · rename_i hl
          simp only [Bool.and_eq_true, decide_eq_true_eq] at hl
          obtain ⟨b, vs, g1, g2, g3⟩ := lst_of rel1.hr e2
          obtain ⟨a', q1, rfl⟩ := vr_ref.mp v1
          rw [g1] at q1; cases q1
          rw [pairsE_eq e3] at g3
          obtain ⟨bs, rfl, k1, k2, k3⟩ := pairs_refs g3
          have hln : bs.length = l.length := by rw [← k1, List.length_map]
          refine ⟨b, bs.map fun c => (c, [(pairAt H1 c).1, (pairAt H1 c).2]), rfl, ?_, fun p hp => ?_, by rw [List.length_map, hln]; exact hl.2, ?_, ?_⟩
          · rw [List.map_map]
            exact g2
          · obtain ⟨c, hc, rfl⟩ := List.mem_map.mp hp
            obtain ⟨i, j, e⟩ := k2 c hc
            refine SqT.of ?_
            unfold pairAt
            rw [e]
            rfl
          · rw [List.map_map]
            have hn := nodupB_iff.mp hl.1
            rw [← k1] at hn
            rw [List.Nodup, List.pairwise_map] at hn ⊢
            refine hn.imp fun {x y} hxy z => hxy ?_
            simp only [Function.comp_apply, List.cons.injEq, and_true] at z
            exact Prod.ext z.1 z.2
          · rw [List.length_map, hln]
            exact h1 ρ1 H1 _ (Ext.refl _ _ _) rel1.hr (vr_int.mpr rfl)
        · exact h1.elim
      · exact h1.elim
    · exact h1.elim
  · exact h1.elim
def rSetL (K : Fg) (w : World) : List V → Hp → VK → Prop := fun xs H Q => ∃ (l : Addr) (ns : List Int), xs = [V.ref l] ∧ SqL K H l (ns.map V.int) ∧ ns.length < 64 ∧ ∀ p n, H p = none → n ≤ ns.length → Q (.ref p) (upd H p (SetO w p (fun j => decide (j ∈ ns)) n))
theorem cr_setL (hc : X.calm = true) : CallR X (.type "set") (rSetL X.K X.w) := by
  intro pins s σ H xs us Q I r h
  obtain ⟨l, ns, rfl, hl, hf, q⟩ := h
  rw [Vals.ref1 r]
  obtain ⟨its, rv, pl, hz⟩ := I.list hl
  refine call_setL ns (I.ok.hd hc) pl.isList (by simpa using rv.ints) (by unfold scanBound; omega) fun g tk n hS hn hk => ?_
  exact ⟨.ref s.heap.objs.size, upd H s.heap.objs.size (SetO X.w s.heap.objs.size (fun j => decide (j ∈ ns)) n), I.laid (t' := tk) hk (Nat.le_refl _) (setO_new hS), rfl, q _ _ (I.hok.fresh (Nat.le_refl _)) hn⟩
def dd : List Int → List Int
  | [] => []
  | x :: r => if x ∈ dd r then dd r else x :: dd r
theorem mem_dd {k : Int} : ∀ {l : List Int}, k ∈ dd l ↔ k ∈ l
  | [] => Iff.rfl
  | x :: r => by
    unfold dd
    have ih := mem_dd (k := k) (l := r)
    split
    · rename_i h
      rw [ih, List.mem_cons]
      constructor
      · exact .inr
      · rintro (rfl | z)
        · exact mem_dd.mp h
        · exact z
    · rw [List.mem_cons, List.mem_cons, ih]
theorem dd_nodup : ∀ l : List Int, (dd l).Nodup
  | [] => List.nodup_nil
  | x :: r => by
    unfold dd
    split
    · exact dd_nodup r
    · rename_i h
      exact List.nodup_cons.mpr ⟨h, dd_nodup r⟩
def usort (l : List Int) : List Int := isort (dd l)
def dSortSet (a : DE) : DE := fun es h => (a es h).bind fun x h1 => match x with
  | .ref n => match lstAt h1 n with
    | some xs => match intsE xs with
      | some l => if l.length < 64 then .ok (.ref h1.length) (h1 ++ [.lst ((usort l).map EV.int)]) else .no
      | none => .no
    | none => .no
  | _ => .no
theorem usort_eq {l m : List Int} (h1 : m.Pairwise (· < ·)) (h2 : ∀ k, k ∈ m ↔ k ∈ l) : m = usort l := by
  refine isort_eq ?_ (h1.imp fun h => Int.le_of_lt h)
  refine (List.perm_ext_iff_of_nodup (h1.imp fun h => Int.ne_of_lt h) (dd_nodup l)).mpr fun k => ?_
  rw [h2, mem_dd]
theorem xe_sortSet {p p2 q pos : Pos} (hc : X.calm = true) (hg : Gl X "sorted") (hm : X.mg "sorted" = none) (hg2 : Gl X "set") (hm2 : X.mg "set" = none) (ha : PEd X ct E a da)
    (na : starEach [a] X.env = (false, eval a X.env) :: starEach [] X.env := by rfl) (nb : starEach [.Call (.Name "set" p2) [a] [] q] X.env = (false, eval (.Call (.Name "set" p2) [a] [] q) X.env) :: starEach [] X.env := by rfl) : PEd X ct E (.Call (.Name "sorted" p) [.Call (.Name "set" p2) [a] [] q] [] pos) (dSortSet da) := by
  obtain ⟨t, h1, h2⟩ := ha
  refine ⟨_, pe_callB (cr_sortedSet hc) hg hm (by decide +kernel) (pa_cons (pe_callTy (cr_setL hc) hg2 hm2 (by decide +kernel) (pa_cons h1 pa_nil na) (he := na)) pa_nil nb) (he := nb), fun ρ σ H es eh Q rel h => ?_⟩
  refine h2.bind rel h fun ρ1 H1 x eh1 u e1 rel1 v1 h1 => ?_
  split at h1
  · rename_i n
    split at h1
    · rename_i xs e2
      split at h1
      · rename_i l e3
        split at h1
        · rename_i hl
          obtain ⟨b, vs, g1, g2, g3⟩ := lst_of rel1.hr e2
          obtain ⟨a', q1, rfl⟩ := vr_ref.mp v1
          rw [g1] at q1; cases q1
          rw [intsE_eq e3] at g3
          have := VRs.of_ints g3
          subst this
          refine ⟨b, l, rfl, g2, hl, fun d n hd hn => ?_⟩
          refine ⟨d, _, n, rfl, upd_same, by omega, fun ns p o1 o2 o3 hp => ?_⟩
          have e4 : ns = usort l := usort_eq o1 fun k => by rw [o2 k, decide_eq_true_eq]
          subst e4
          have es := Ext.side (K := X.K) (ρ := ρ1) (SetO X.w d (fun j => decide (j ∈ l)) n) hd
          refine new_lst (E := E) (rel1.hr.side _ hd) (VRs.ints (usort l)) ?_ p hp
          exact h1.mono es
        · exact h1.elim
      · exact h1.elim
    · exact h1.elim
  · exact h1.elim
def fLenT : DL := fun xs h => match xs with
  | [.ref n] => match mdicAt h n with
    | some (true, kvs) => .ok (.int kvs.length) h
    | _ => .no
  | _ => .no
theorem c_lenT : Cld X ct E (.builtin "len") fLenT := ⟨_, call_len_dT, fun ρ H eh xs as Q hr hx h => by
  unfold fLenT at h
  split at h
  · rename_i n
    split at h
    · rename_i kvs e1
      obtain ⟨p, u, g1, g2, g3, g4⟩ := mdic_of hr e1
      obtain ⟨l, rfl, hk⟩ := g3
      obtain ⟨v, rfl, hv⟩ := vrs_one hx
      obtain ⟨p', q1, rfl⟩ := vr_ref.mp hv
      rw [g1] at q1; cases q1
      exact ⟨p, l, rfl, g2, h ρ H _ (Ext.refl _ _ _) hr (by rw [hk.len]; exact vr_int.mpr rfl)⟩
    · exact h.elim
  · exact h.elim⟩
end
end EE
set_option Elab.async false
set_option linter.all false
set_option maxRecDepth 100000
set_option maxHeartbeats 1000000
namespace EE
open PySem PySem.Spec PyProof.Rows L2
def strsE : List EV → Option (List Str)
  | [] => some []
  | x :: xs => match x, strsE xs with
    | .str s, some ss => some (s :: ss)
    | _, _ => none
theorem strsE_eq : ∀ {xs : List EV} {ss : List Str}, strsE xs = some ss → xs = ss.map EV.str
  | [], ss, h => by cases h; rfl
  | x :: xs, ss, h => by
    unfold strsE at h
    split at h
    · rename_i s ss' e
      cases h
      rw [List.map_cons, strsE_eq e]
    · cases h
theorem strsE_map : ∀ ss : List Str, strsE (ss.map EV.str) = some ss
  | [] => rfl
  | s :: ss => by rw [List.map_cons]; unfold strsE; rw [strsE_map ss]
theorem VRs.strs {K : Fg} {ρ : Rho} {H : Hp} : ∀ (ss : List Str), VRs K ρ H (ss.map EV.str) (ss.map V.str)
  | [] => vrs_nil.mpr rfl
  | s :: ss => vrs_cons.mpr ⟨.str s, ss.map V.str, rfl, vr_str.mpr rfl, VRs.strs ss⟩
theorem VRs.of_strs {K : Fg} {ρ : Rho} {H : Hp} : ∀ {ss : List Str} {vs : List V}, VRs K ρ H (ss.map EV.str) vs → vs = ss.map V.str
  | [], vs, h => vrs_nil.mp h
  | s :: ss, vs, h => by
    obtain ⟨v, r, rfl, h1, h2⟩ := vrs_cons.mp h
    rw [vr_str.mp h1, VRs.of_strs h2]
    rfl
def fCatS : D2 := fun x y h => match x, y with
  | .str i, .str j => if i.length + j.length ≤ 100000 then .ok (.str (i ++ j)) h else .no
  | _, _ => .no
def fStrI : DL := fun xs h => match xs with
  | [.int i] => if i.natAbs.log2 < 1920 then .ok (.str (toString i)) h else .no
  | _ => .no
def fStrS : DL := fun xs h => match xs with
  | [.str a] => .ok (.str a) h
  | _ => .no
abbrev fStr : DL := dLor fStrI fStrS
def fIntS : DL := fun xs h => match xs with
  | [.str a] => match PySem.intText? a with
    | some n => if a.length ≤ 640 then .ok (.int n) h else .no
    | none => .no
  | _ => .no
def fLenS : DL := fun xs h => match xs with
  | [.str a] => if a.length ≤ 100000 then .ok (.int a.length) h else .no
  | _ => .no
def mJoin : EV → DL := fun x xs h => match x, xs with
  | .str a, [.ref n] => match lstAt h n with
    | some ys => match strsE ys with
      | some ss => if (ss.map (·.length)).sum + ss.length * a.length ≤ 16777216 then .ok (.str (Txt.join a ss)) h else .no
      | none => .no
    | none => .no
  | _, _ => .no
def mSplit : EV → DL := fun x xs h => match x, xs with
  | .str a, [.str b] => if (b.length == 0) = false ∧ a.length ≤ 99998 then .ok (.ref h.length) (h ++ [.lst ((Txt.split a b).map EV.str)]) else .no
  | _, _ => .no
def mS0 (g : Str → EV) : EV → DL := fun x xs h => match x, xs with
  | .str a, [] => .ok (g a) h
  | _, _ => .no
def mStarts : EV → DL := fun x xs h => match x, xs with
  | .str a, [.str b] => .ok (.bl (Txt.startswith a b)) h
  | _, _ => .no
def dSM0 (f : EV → DL) (o : DE) : DE := fun es h => (o es h).bind fun x h1 => match x with
  | .str _ => f x [] h1
  | _ => .no
def dSM1 (f : EV → DL) (o a : DE) : DE := fun es h => (o es h).bind fun x h1 => match x with
  | .str _ => (a es h1).bind fun y h2 => f x [y] h2
  | _ => .no
section
variable {X : Cx} {ct : Nat → Addr × List Str} {E : XK} {G : Gx}
theorem o_catS : Opd X ct E (binaryOp .Add) fCatS := ⟨_, op_add_str, fun ρ H eh x y a b Q hr hx hy h => by
  unfold fCatS at h
  split at h
  · rename_i i j
    split at h
    · rename_i hl
      exact ⟨i, j, vr_str.mp hx, vr_str.mp hy, sz5 hl, h ρ H _ (Ext.refl _ _ _) hr (vr_str.mpr rfl)⟩
    · exact h.elim
  · exact h.elim⟩
theorem c_strI : Cld X ct E (.type "str") fStrI := ⟨_, call_str_int, fun ρ H eh xs as Q hr hx h => by
  unfold fStrI at h
  split at h
  · rename_i i
    split at h
    · rename_i hl
      obtain ⟨v, rfl, hv⟩ := vrs_one hx
      rw [vr_int.mp hv]
      exact ⟨i, rfl, hl, h ρ H _ (Ext.refl _ _ _) hr (vr_str.mpr rfl)⟩
    · exact h.elim
  · exact h.elim⟩
theorem c_strS : Cld X ct E (.type "str") fStrS := ⟨_, SkE.call_str_str, fun ρ H eh xs as Q hr hx h => by
  unfold fStrS at h
  split at h
  · rename_i i
    obtain ⟨v, rfl, hv⟩ := vrs_one hx
    rw [vr_str.mp hv]
    exact ⟨i, rfl, h ρ H _ (Ext.refl _ _ _) hr (vr_str.mpr rfl)⟩
  · exact h.elim⟩
theorem c_str : Cld X ct E (.type "str") fStr := c_strI.or c_strS
theorem c_intS : Cld X ct E (.type "int") fIntS := ⟨_, call_int_str, fun ρ H eh xs as Q hr hx h => by
  unfold fIntS at h
  split at h
  · rename_i a
    split at h
    · rename_i n hn
      split at h
      · rename_i hl
        obtain ⟨v, rfl, hv⟩ := vrs_one hx
        rw [vr_str.mp hv]
        exact ⟨a, n, rfl, hn, hl, h ρ H _ (Ext.refl _ _ _) hr (vr_int.mpr rfl)⟩
      · exact h.elim
    · exact h.elim
  · exact h.elim⟩
theorem c_lenS : Cld X ct E (.builtin "len") fLenS := ⟨_, call_len_str, fun ρ H eh xs as Q hr hx h => by
  unfold fLenS at h
  split at h
  · rename_i a
    split at h
    · rename_i hl
      obtain ⟨v, rfl, hv⟩ := vrs_one hx
      rw [vr_str.mp hv]
      exact ⟨a, rfl, sz5 hl, h ρ H _ (Ext.refl _ _ _) hr (vr_int.mpr rfl)⟩
    · exact h.elim
  · exact h.elim⟩
theorem m_join : Mtd X ct E "str.join" mJoin := ⟨_, mt_join, fun ρ H eh x a xs as Q hr hx hxs h => by
  unfold mJoin at h
  split at h
  · rename_i s n
    split at h
    · rename_i ys e1
      split at h
      · rename_i ss e2
        split at h
        · rename_i hl
          obtain ⟨v, rfl, hv⟩ := vrs_one hxs
          obtain ⟨b, vs, g1, g2, g3⟩ := lst_of hr e1
          obtain ⟨b', q1, rfl⟩ := vr_ref.mp hv
          rw [g1] at q1; cases q1
          rw [strsE_eq e2] at g3
          rw [VRs.of_strs g3] at g2
          exact ⟨s, b, ss, vr_str.mp hx, rfl, .inl g2, hl, h ρ H _ (Ext.refl _ _ _) hr (vr_str.mpr rfl)⟩
        · exact h.elim
      · exact h.elim
    · exact h.elim
  · exact h.elim⟩
theorem m_split : Mtd X ct E "str.split" mSplit := ⟨_, mt_split, fun ρ H eh x a xs as Q hr hx hxs h => by
  unfold mSplit at h
  split at h
  · rename_i s t
    split at h
    · rename_i hl
      obtain ⟨v, rfl, hv⟩ := vrs_one hxs
      rw [vr_str.mp hv]
      exact ⟨s, t, vr_str.mp hx, rfl, hl.1, by have := sz5 (show 100000 ≤ 100000 from Nat.le_refl _); omega, new_lst hr (VRs.strs _) h⟩
    · exact h.elim
  · exact h.elim⟩
theorem m_isascii : Mtd X ct E "str.isascii" (mS0 fun a => .bl (Txt.isascii a)) := ⟨_, mt_isascii, fun ρ H eh x a xs as Q hr hx hxs h => by
  unfold mS0 at h
  split at h
  · exact ⟨_, vr_str.mp hx, vrs_nil.mp hxs, trivial, h ρ H _ (Ext.refl _ _ _) hr (vr_bl.mpr rfl)⟩
  · exact h.elim⟩
theorem m_isdigit : Mtd X ct E "str.isdigit" (mS0 fun a => .bl (Txt.isdigit a)) := ⟨_, mt_isdigit, fun ρ H eh x a xs as Q hr hx hxs h => by
  unfold mS0 at h
  split at h
  · exact ⟨_, vr_str.mp hx, vrs_nil.mp hxs, trivial, h ρ H _ (Ext.refl _ _ _) hr (vr_bl.mpr rfl)⟩
  · exact h.elim⟩
theorem m_starts : Mtd X ct E "str.startswith" mStarts := ⟨_, mt_startswith, fun ρ H eh x a xs as Q hr hx hxs h => by
  unfold mStarts at h
  split at h
  · obtain ⟨v, rfl, hv⟩ := vrs_one hxs
    rw [vr_str.mp hv]
    exact ⟨_, _, vr_str.mp hx, rfl, h ρ H _ (Ext.refl _ _ _) hr (vr_bl.mpr rfl)⟩
  · exact h.elim⟩
variable {o e : Expr} {d a : DE}
theorem xe_sm0 {id : String} {name : Str} {apos pos : Pos} {f : EV → DL} (slot : Slot "str" name id) (ty : typeOf (.builtin id) = pure (.type "method_descriptor")) (m : Mtd X ct E id f) (ho : PEd X ct E o d)
    (hbase : attributeBase o name X.env (eval o X.env) = eval o X.env := by rfl) (hline : (apos.endLine == pos.line) = true := by rfl) : PEd X ct E (.Call (.Attribute o name apos) [] [] pos) (dSM0 f d) := by
  obtain ⟨r, m1, m2⟩ := m
  obtain ⟨t, a1, a2⟩ := ho
  refine ⟨_, pe_m0 slot ty m1 a1 hbase hline, fun ρ σ H es eh Q rel h => ?_⟩
  refine a2.bind rel h fun ρ1 H1 x eh1 u e1 rel1 v1 h1 => ?_
  cases x with
  | str s => exact ⟨⟨s, vr_str.mp v1⟩, m2 ρ1 H1 eh1 _ _ [] [] Q rel1.hr v1 (vrs_nil.mpr rfl) h1⟩
  | _ => exact h1.elim
theorem xe_sm1 {id : String} {name : Str} {apos pos : Pos} {f : EV → DL} (slot : Slot "str" name id) (ty : typeOf (.builtin id) = pure (.type "method_descriptor")) (m : Mtd X ct E id f) (ho : PEd X ct E o d) (he : PEd X ct E e a)
    (hs : starEach [e] X.env = [(false, eval e X.env)] := by rfl) (hbase : attributeBase o name X.env (eval o X.env) = eval o X.env := by rfl) (hline : (apos.endLine == pos.line) = true := by rfl) :
    PEd X ct E (.Call (.Attribute o name apos) [e] [] pos) (dSM1 f d a) := by
  obtain ⟨r, m1, m2⟩ := m
  obtain ⟨t, a1, a2⟩ := ho
  obtain ⟨u, b1, b2⟩ := he
  refine ⟨_, pe_m1 slot ty m1 a1 b1 hs hbase hline, fun ρ σ H es eh Q rel h => ?_⟩
  refine a2.bind rel h fun ρ1 H1 x eh1 u e1 rel1 v1 h1 => ?_
  cases x with
  | str s =>
    refine ⟨⟨s, vr_str.mp v1⟩, ?_⟩
    refine b2.bind rel1 h1 fun ρ2 H2 y eh2 w e2 rel2 v2 h2 => ?_
    exact m2 ρ2 H2 eh2 _ _ [y] [w] Q rel2.hr (v1.mono e2) (VRs.one v2) h2
  | _ => exact h1.elim
theorem xe_join {apos pos : Pos} (ho : PEd X ct E o d) (he : PEd X ct E e a) (hs : starEach [e] X.env = [(false, eval e X.env)] := by rfl) (hbase : attributeBase o "join" X.env (eval o X.env) = eval o X.env := by rfl) (hline : (apos.endLine == pos.line) = true := by rfl) :
    PEd X ct E (.Call (.Attribute o "join" apos) [e] [] pos) (dSM1 mJoin d a) := xe_sm1 F.slot_str_join F.type_str_join m_join ho he hs hbase hline
theorem xe_split {apos pos : Pos} (ho : PEd X ct E o d) (he : PEd X ct E e a) (hs : starEach [e] X.env = [(false, eval e X.env)] := by rfl) (hbase : attributeBase o "split" X.env (eval o X.env) = eval o X.env := by rfl) (hline : (apos.endLine == pos.line) = true := by rfl) :
    PEd X ct E (.Call (.Attribute o "split" apos) [e] [] pos) (dSM1 mSplit d a) := xe_sm1 F.slot_str_split F.type_str_split m_split ho he hs hbase hline
theorem xe_starts {apos pos : Pos} (ho : PEd X ct E o d) (he : PEd X ct E e a) (hs : starEach [e] X.env = [(false, eval e X.env)] := by rfl) (hbase : attributeBase o "startswith" X.env (eval o X.env) = eval o X.env := by rfl) (hline : (apos.endLine == pos.line) = true := by rfl) :
    PEd X ct E (.Call (.Attribute o "startswith" apos) [e] [] pos) (dSM1 mStarts d a) := xe_sm1 F.slot_str_startswith F.type_str_startswith m_starts ho he hs hbase hline
abbrev mIsascii : EV → DL := mS0 fun a => .bl (Txt.isascii a)
abbrev mIsdigit : EV → DL := mS0 fun a => .bl (Txt.isdigit a)
theorem xe_isascii {apos pos : Pos} (ho : PEd X ct E o d) (hbase : attributeBase o "isascii" X.env (eval o X.env) = eval o X.env := by rfl) (hline : (apos.endLine == pos.line) = true := by rfl) :
    PEd X ct E (.Call (.Attribute o "isascii" apos) [] [] pos) (dSM0 mIsascii d) := xe_sm0 F.slot_str_isascii F.type_str_isascii m_isascii ho hbase hline
theorem xe_isdigit {apos pos : Pos} (ho : PEd X ct E o d) (hbase : attributeBase o "isdigit" X.env (eval o X.env) = eval o X.env := by rfl) (hline : (apos.endLine == pos.line) = true := by rfl) :
    PEd X ct E (.Call (.Attribute o "isdigit" apos) [] [] pos) (dSM0 mIsdigit d) := xe_sm0 F.slot_str_isdigit F.type_str_isdigit m_isdigit ho hbase hline
end
theorem ltC_no : ∀ {a b : List Nat}, ltCps a b = false → ltCps b a = false → a = b
  | [], [], _, _ => rfl
  | [], _ :: _, h, _ => by cases h
  | _ :: _, [], _, h => by cases h
  | x :: r, y :: t, h, g => by
    simp only [ltCps, Bool.or_eq_false_iff, decide_eq_false_iff_not, Bool.and_eq_false_iff, beq_eq_false_iff_ne] at h g
    have e : x = y := by omega
    subst e
    rw [ltC_no (a := r) (b := t) (by simpa using h.2) (by simpa using g.2)]
theorem ltC_trans : ∀ {a b c : List Nat}, ltCps b a = false → ltCps c b = false → ltCps c a = false
  | [], b, [], _, _ => rfl
  | [], [], _ :: _, _, h => by rfl
  | [], _ :: _, _ :: _, _, _ => rfl
  | _ :: _, [], _, h, _ => by cases h
  | _ :: _, _ :: _, [], _, h => by cases h
  | x :: r, y :: t, z :: u, h, g => by
    simp only [ltCps, Bool.or_eq_false_iff, decide_eq_false_iff_not, Bool.and_eq_false_iff, beq_eq_false_iff_ne] at h g ⊢
    refine ⟨by omega, ?_⟩
    by_cases e : z = x
    · right
      have e1 : y = x := by omega
      have e2 : z = y := by omega
      refine ltC_trans (a := r) (b := t) (c := u) ?_ ?_
      · rcases h.2 with q | q
        · exact absurd e1 q
        · exact q
      · rcases g.2 with q | q
        · exact absurd e2 q
        · exact q
    · exact .inl e
theorem ltC_tot : ∀ (a b : List Nat), ltCps b a = false ∨ ltCps a b = false
  | [], [] => .inl rfl
  | [], _ :: _ => .inl rfl
  | _ :: _, [] => .inr rfl
  | x :: r, y :: t => by
    simp only [ltCps, Bool.or_eq_false_iff, decide_eq_false_iff_not, Bool.and_eq_false_iff, beq_eq_false_iff_ne]
    have := ltC_tot r t
    by_cases e : x = y
    · subst e
      rcases this with q | q
      · exact .inl ⟨by omega, .inr q⟩
      · exact .inr ⟨by omega, .inr q⟩
    · by_cases l : x < y
      · exact .inl ⟨by omega, .inl (by omega)⟩
      · exact .inr ⟨by omega, .inl (by omega)⟩
abbrev leS (a b : Str) : Bool := !ltCps b.cps.toList a.cps.toList
def ssort (l : List Str) : List Str := l.mergeSort leS
theorem leS_trans (a b c : Str) (h : leS a b = true) (g : leS b c = true) : leS a c = true := by
  simp only [leS, Bool.not_eq_true'] at *
  exact ltC_trans h g
theorem leS_tot (a b : Str) : (leS a b || leS b a) = true := by
  simp only [leS, Bool.or_eq_true, Bool.not_eq_true']
  exact ltC_tot _ _
theorem leS_anti {a b : Str} (h : leS a b = true) (g : leS b a = true) : a = b := by
  simp only [leS, Bool.not_eq_true'] at *
  exact TL.ext_tl (ltC_no g h)
theorem ssort_perm (l : List Str) : (ssort l).Perm l := List.mergeSort_perm l _
theorem ssort_pw (l : List Str) : (ssort l).Pairwise fun a b => leS a b = true := List.pairwise_mergeSort leS_trans leS_tot l
theorem rising_pw : ∀ (r : List Str) (p : Str), risingS p r = true → (p :: r).Pairwise fun a b => leS a b = true
  | [], p, _ => List.pairwise_singleton _ _
  | x :: r, p, h => by
    simp only [risingS, Bool.and_eq_true] at h
    have ih := rising_pw r x h.2
    refine List.pairwise_cons.mpr ⟨fun y hy => ?_, ih⟩
    rcases List.mem_cons.mp hy with e | hy
    · subst e; exact h.1
    · exact leS_trans _ _ _ h.1 ((List.pairwise_cons.mp ih).1 y hy)
theorem ssort_eq {l m : List Str} (h : m.Perm l) (hs : sortedS m = true) : m = ssort l := by
  refine List.Perm.eq_of_pairwise (le := fun a b => leS a b = true) (fun a b _ _ h1 h2 => leS_anti h1 h2) ?_ (ssort_pw l) (h.trans (ssort_perm l).symm)
  cases m with
  | nil => exact .nil
  | cons x r => exact rising_pw r x hs
def fSortK : DL := fun xs h => match xs with
  | [.ref n] => match dicAt h n with
    | some (false, kvs) => match strsE (kvs.map (·.1)) with
      | some l => if l.length < 64 then .ok (.ref h.length) (h ++ [.lst ((ssort l).map EV.str)]) else .no
      | none => .no
    | _ => .no
  | _ => .no
theorem keyOf_strs : ∀ {xs : List EV} {l : List Str} {ks : List Key}, strsE xs = some l → xs.map keyOf = ks.map some → ks = l.map Sum.inr
  | xs, l, ks, h, e => by
    rw [strsE_eq h, List.map_map] at e
    have : (l.map (Sum.inr : Str → Key)).map some = ks.map some := by
      rw [← e, List.map_map]
      rfl
    exact (List.map_inj_right (fun _ _ => Option.some.inj)).mp this.symm
section
variable {X : Cx} {ct : Nat → Addr × List Str} {E : XK} {G : Gx}
theorem c_sortK (hc : X.calm = true) : Cld X ct E (.builtin "sorted") fSortK := ⟨_, call_sortedD hc, fun ρ H eh xs as Q hr hx h => by
  unfold fSortK at h
  split at h
  · rename_i n
    split at h
    · rename_i kvs e1
      split at h
      · rename_i l e2
        split at h
        · rename_i hl
          obtain ⟨v, rfl, hv⟩ := vrs_one hx
          obtain ⟨a, u, g1, g2, g3⟩ := dic_of hr e1
          obtain ⟨a', q1, rfl⟩ := vr_ref.mp hv
          rw [g1] at q1; cases q1
          obtain ⟨m, rfl, hk⟩ := g3
          have hkeys : m.map (·.1) = l.map Sum.inr := by
            refine keyOf_strs e2 ?_
            rw [List.map_map]
            have := hk.keys
            rw [List.map_map]
            exact this
          refine ⟨a, m, l, rfl, g2, hkeys, hl, fun ys p h1 h2 hp => ?_⟩
          rw [ssort_eq h1 h2]
          exact new_lst hr (VRs.strs _) h p hp
        · exact h.elim
      · exact h.elim
    · exact h.elim
  · exact h.elim⟩
end
end EE
set_option Elab.async false
set_option linter.all false
set_option maxRecDepth 100000
set_option maxHeartbeats 1000000
namespace EE
open PySem PySem.Spec PyProof.Rows L2
def dItE (a : DA) : DI := fun es h => (a es h).bind fun xs h1 => match xs with
  | [.ref n] => match lstAt h1 n with
    | some _ => .ok ⟨some n, [], fun i x => .tup [.int i, x]⟩ h1
    | none => .no
  | _ => .no
section
variable {X : Cx} {ct : Nat → Addr × List Str} {E : XK} {G : Gx}
theorem jr_enum {ρ : Rho} {H : Hp} {n : Nat} {a : Addr} (h : adr ρ n = some a) : JR G ρ H ⟨some n, [], fun i x => .tup [.int i, x]⟩ (Ite G.K a) := fun ρ' H' eh xs e hr hc => by
  obtain ⟨a', vs, g1, g2, g3⟩ := lst_of hr (show lstAt eh n = some xs from hc)
  rw [e.get h] at g1; cases g1
  refine ⟨fun i x hx => ?_, fun i hx => ⟨vs, g2, ?_⟩⟩
  · obtain ⟨v, h1, h2⟩ := g3.get hx
    refine ⟨⟨vs, v, g2, h1⟩, fun y H2 hy => ?_⟩
    obtain ⟨T, z, rfl, hT, rfl, hy⟩ := hy
    have := hy vs g2
    rw [h1] at this
    cases this
    have e3 : Ext G.K ρ' ρ' H' (upd H' T (.tup [.int (i : Nat), v])) := Ext.side _ hT
    exact ⟨e3, hr.side _ hT, vr_tup.mpr ⟨T, _, rfl, upd_same, vrs_cons.mpr ⟨_, _, rfl, vr_int.mpr rfl, VRs.one (VR.mono e3 _ _ h2)⟩⟩⟩
  · rw [← g3.length]
    exact List.getElem?_eq_none_iff.mp hx
theorem snd_itE {tl : TA} {a : DA} (ha : SndA G E tl a) : SndI G E (iEnum G.K tl) (dItE a) := fun ρ σ H es eh Q rel h => by
  refine ha.bind rel h fun ρ1 H1 xs eh1 us e1 rel1 v1 h1 => ?_
  split at h1
  · rename_i n
    split at h1
    · rename_i ys e2
      obtain ⟨v, rfl, hv⟩ := vrs_one v1
      obtain ⟨a1, vs, g1, g2, g3⟩ := lst_of rel1.hr e2
      obtain ⟨a', q1, rfl⟩ := vr_ref.mp hv
      rw [g1] at q1; cases q1
      exact ⟨a1, vs, rfl, g2, h1 ρ1 H1 _ (Ext.refl _ _ _) rel1.hr (jr_enum g1)⟩
    · exact h1.elim
  · exact h1.elim
theorem xi_enum {elts : List Expr} {kk : Nat} {tpos p pos : Pos} {e : Expr} {d : DA} (hg : Gl X "enumerate") (hm : X.mg "enumerate" = none) (ha : PAd X ct E [e] d) (hs : starEach [e] X.env = [(false, eval e X.env)] := by rfl) :
    PId X ct E (.Tuple elts kk tpos) (.Call (.Name "enumerate" p) [e] [] pos) (dItE d) := by
  obtain ⟨t, h1, h2⟩ := ha
  exact ⟨_, pi_enum hg hm h1 hs, snd_itE h2⟩
end
section
variable {prog : Program} {w : World} {A : Around} {E : Value → Shared → Prop} {s : Shared}
theorem draw_list {it t : Addr} {items : Array Value} (hne : t ≠ it) : ∀ (n i : Nat) (s : Shared) (Q : List Value → Shared → Prop), s.heap.IsListIter it t i → s.heap.IsList t items → i + n ≤ items.size →
    (∀ h', h'.IsListIter it t (i + n) → Heap.SameBut it s.heap h' → Q ((items.toList.drop i).take n) { s with heap := h' }) → wpAny (model prog w) A (draw (.ref it) n) Q E s
  | 0, i, s, Q, hit, _, _, hQ => by
    show wpAny _ _ (pure []) Q E s
    exact wpAny_pure (by simpa using hQ s.heap hit (Heap.SameBut.refl ..))
  | n + 1, i, s, Q, hit, ht, hle, hQ => by
    have hlt : i < items.size := by omega
    show wpAny _ _ (pyNext (.ref it) >>= _) Q E s
    refine wpAny_bind (wpAny_pyNext_list_item hit ht (x := items[i]) (by simp [hlt]) fun h₁ hit₁ hs₁ => ?_)
    refine wpAny_bind (wpAny_holding (draw_list hne n (i + 1) _ _ hit₁ (ht.extBut hs₁.extBut hne) (by omega) fun h₂ hit₂ hs₂ => wpAny_pure ?_))
    have hd : items.toList.drop i = items[i] :: items.toList.drop (i + 1) := by simp [List.drop_eq_getElem_cons, hlt]
    have := hQ h₂ (by rw [show i + (n + 1) = i + 1 + n by omega]; exact hit₂) (hs₁.trans hs₂)
    rw [hd, List.take_succ_cons] at this
    exact this
theorem walks_restL (hh : A.handled = none) (Ia t : Addr) (ne : t ≠ Ia) (items : Array Value) (i0 : Nat) (h0 : i0 ≤ items.size) :
    Walks prog w A Ia [Ia, t] [Ia] (items.size - i0) (fun j v => items[i0 + j]? = some v) (fun j h => h.IsListIter Ia t (i0 + j) ∧ h.IsList t items) where
  sub := fun b hb => by
    rw [List.mem_singleton.mp hb]
    exact List.mem_cons_self
  frame := fun j h h' st k => ⟨st.1.at fun o e => k Ia (by simp) o e, st.2.at fun o e => k t (by simp) o e⟩
  item := fun j s Q E hj st hQ => by
    have hlt : i0 + j < items.size := by omega
    refine wpAny_pyNext_list_item st.1 st.2 (x := items[i0 + j]) (by simp [hlt]) fun h1 hit hs => ?_
    exact hQ _ h1 s.toks (by simp [hlt]) ⟨hit, st.2.extBut hs.extBut ne⟩ fun b o hb e => hs.extBut b o (fun z => hb (by simp [z])) e
  done := fun s Q E st hQ => wpAny_pyNext_list_end hh st.1 st.2 (Array.getElem?_eq_none (by omega)) fun h1 he => hQ h1 s.toks fun b o hb e => he b o (fun z => hb (by simp [z])) e
  self := fun j s Q E st h => wpAny_pyIter_listiter st.1 h
theorem unpack_restL {t : Addr} {items : List Value} {i0 : Nat} {Q : List Value → Shared → Prop} (hh : A.handled = none) (ht : s.heap.IsList t items.toArray) (h0 : i0 ≤ items.length) (hz : items.length ≤ sizeLine)
    (hQ : ∀ (h2 : Heap) (tk : Nat), (∀ b o, s.heap.get? b = some o → h2.get? b = some o) → Q (items.take i0 ++ [.ref h2.objs.size]) { s with heap := h2.push { cls := .type "list", data := .seq (items.drop i0).toArray }, toks := tk }) :
    wpAny (model prog w) A (unpackItems (.ref t) (i0 + 1) (some i0)) Q E s := by
  have hlt : t ≠ s.heap.objs.size := by
    obtain ⟨o, ho, _⟩ := ht
    exact Nat.ne_of_lt (Heap.lt_size ho)
  unfold unpackItems
  refine wpAny_bind (m := notIterableAtAll _) ?_
  unfold notIterableAtAll
  refine wpAny_bind (wpAny_specialOf ht.typeIs slot_list_iter.lookup (wpAny_pure ?_))
  simp only [Bool.false_eq_true, if_false]
  refine wpAny_bind (wpAny_holding (wpAny_pyIter_list ht ?_))
  refine wpAny_bind (wpAny_holding (draw_list hlt i0 0 _ _ ⟨_, Heap.get?_push_size _ rfl, rfl, rfl⟩ (ht.at fun o e => Heap.get?_push_of_some _ e) (by simpa using h0) fun h1 hit1 sb1 => ?_))
  have e1 : List.take i0 (List.drop 0 items.toArray.toList) = items.take i0 := by simp
  rw [e1, if_neg (by rw [List.length_take]; omega)]
  have ht1 : h1.IsList t items.toArray := (ht.at fun o e => Heap.get?_push_of_some _ e).extBut sb1.extBut hlt
  rw [Nat.zero_add] at hit1
  have hsz : s.heap.objs.size < h1.objs.size := by
    obtain ⟨o, ho, _⟩ := hit1
    exact Heap.lt_size ho
  refine wpAny_bind (wpAny_holding (wpAny_collect_iter (T := "list_iterator") (by simp) (walks_restL (A := A.in1) hh s.heap.objs.size t hlt items.toArray i0 (by simpa using h0)).toS (fun j s' st => ?_) ⟨by rw [Nat.add_zero]; exact hit1, ht1⟩ (fun b hb => ?_) (by simp) (fun s2 acc hm hacc => ?_) (by simp; omega)))
  · obtain ⟨⟨o, ho, hc, _⟩, _⟩ := st
    exact ⟨o, ho, hc⟩
  · rcases List.mem_cons.mp hb with e | hb
    · rw [e]
      exact hsz
    · rw [List.mem_singleton.mp hb]
      obtain ⟨o, ho, _⟩ := ht1
      exact Heap.lt_size ho
  · have ea : acc.toList = items.drop i0 := by
      have hl : acc.size = items.length - i0 := by simpa using hacc.1
      apply List.ext_getElem?
      intro j
      rw [List.getElem?_drop]
      cases hj : acc.toList[j]? with
      | none =>
        have := List.getElem?_eq_none_iff.mp hj
        rw [Array.length_toList] at this
        exact (List.getElem?_eq_none (by omega)).symm
      | some v =>
        have := hacc.2 j v (by rw [← Array.getElem?_toList]; exact hj)
        simpa using this.symm
    rw [ea, show i0 + 1 - 1 - i0 = 0 by omega, if_neg (by omega), Nat.sub_zero, List.take_length, List.drop_length]
    simp only [List.append_nil]
    refine wpAny_bind (wpAny_newList (wpAny_pure ?_) (by rw [List.length_drop]; omega))
    have hk : ∀ b o, s.heap.get? b = some o → s2.heap.get? b = some o := fun b o e => by
      have n : b ≠ s.heap.objs.size := Nat.ne_of_lt (Heap.lt_size e)
      exact hm.heap b o (by simpa using n) ((sb1.2 b n).trans (Heap.get?_push_of_some _ e))
    rw [Moved.eq_with hm]
    exact hQ _ _ hk
end
def gStarL (K : Fg) (i0 : Nat) (t : TGs) : TG := fun v σ H Q => ∃ a xs, v = V.ref a ∧ SqL K H a xs ∧ i0 ≤ xs.length ∧ ∀ l, H l = none → t (xs.take i0 ++ [.ref l]) σ (upd H l (.lst (xs.drop i0))) Q
def dGStarL (i0 : Nat) (r : DGs) : DG := fun x es h => match x with
  | .ref n => match lstAt h n with
    | some xs => if i0 ≤ xs.length then r (xs.take i0 ++ [.ref h.length]) es (h ++ [.lst (xs.drop i0)]) else .no
    | none => .no
  | _ => .no
section
variable {X : Cx} {ct : Nat → Addr × List Str} {E : XK} {G : Gx} {e : Expr} {es : List Expr} {pos p : Pos}
theorem pg_tupStarL {k i0 : Nat} {t : TGs} (hc : X.calm = true) (h : PGs X es t) (hn : (assignEach es X.env).length = i0 + 1 := by rfl) (hst : (assignEach es X.env).findIdx? (·.1) = some i0 := by rfl) : PG X (.Tuple es k pos) (gStarL X.K i0 t) := by
  refine ⟨fun pins s σ H v u Q I r hw => ?_⟩
  obtain ⟨a, xs, rfl, hq, hl, hw⟩ := hw
  cases r
  obtain ⟨its, rv, ht, hz⟩ := I.list hq
  have hlen := rv.length
  rw [assign_Tuple]
  refine wpAny_bind (wpAny_standAt ?_)
  unfold unpack
  rw [hn, hst]
  refine wpAny_bind (wpAny_holding (unpack_restL (I.ok.hd hc) ht.isList (by omega) (by omega) fun h2 tk hk => ?_))
  have I2 : L2.Inv X pins σ H { s with heap := h2, toks := tk } := I.kept hk
  have hf : H h2.objs.size = none := I2.hok.fresh (Nat.le_refl _)
  have new : ObjOk X.prog X.w (upd H h2.objs.size (.lst (xs.drop i0))) (h2.push { cls := .type "list", data := .seq (its.drop i0).toArray }) h2.objs.size (.lst (xs.drop i0)) :=
    ⟨by rw [List.length_drop]; omega, its.drop i0, 0, vals_drop rv i0, Heap.get?_push_size _ rfl⟩
  have I3 : L2.Inv X pins σ (upd H h2.objs.size (.lst (xs.drop i0))) { s with heap := h2.push { cls := .type "list", data := .seq (its.drop i0).toArray }, toks := tk } :=
    I2.laid (t' := tk) (fun b o e => Heap.get?_push_of_some _ e) (Nat.le_refl _) new
  exact h.run pins _ σ _ _ _ Q I3 ((vals_take rv i0).append (.cons (a := V.ref h2.objs.size) rfl .nil)) (hw _ hf)
theorem snd_gstarL {i0 : Nat} {u : TGs} {ds : DGs} (h2 : SndGs G E u ds) : SndG G E (gStarL G.K i0 u) (dGStarL i0 ds) := fun ρ σ H es eh x us Q rel hx h => by
  unfold dGStarL at h
  split at h
  · rename_i n
    split at h
    · rename_i xs e1
      split at h
      · rename_i hl
        obtain ⟨a, vs, g1, g2, g3⟩ := lst_of rel.hr e1
        obtain ⟨a', q1, rfl⟩ := vr_ref.mp hx
        rw [g1] at q1; cases q1
        refine ⟨a, vs, rfl, g2, by rw [← g3.length]; exact hl, fun l hn => ?_⟩
        have e1 : Ext G.K ρ (ρ ++ [(true, l)]) H (upd H l (.lst (vs.drop i0))) := Ext.alloc _ hn
        have hr := rel.hr.alloc (u := .lst (vs.drop i0)) (o := .lst (xs.drop i0)) hn rfl ⟨_, upd_same, VRs.mono e1 _ _ (g3.drop i0)⟩
        exact h2 (ρ ++ [(true, l)]) σ _ es _ _ _ Q (rel.ext e1 hr) ((VRs.mono e1 _ _ (g3.take i0)).append (VRs.one (vr_ref.mpr ⟨l, last_get rel.hr.len, rfl⟩))) (h.mono e1)
      · exact h.elim
    · exact h.elim
  · exact h.elim
theorem xg_starL {k i0 : Nat} {d : DGs} (hc : X.calm = true) (h : PGsd X ct E es d) (hn : (assignEach es X.env).length = i0 + 1 := by rfl) (hst : (assignEach es X.env).findIdx? (·.1) = some i0 := by rfl) : PGd X ct E (.Tuple es k pos) (dGStarL i0 d) := by
  obtain ⟨t, a1, a2⟩ := h
  exact ⟨_, pg_tupStarL hc a1 hn hst, snd_gstarL a2⟩
def dStarA (a : DE) (r : DA) : DA := fun es h => (a es h).bind fun x h1 => match itemsE h1 x with
  | some ys => (r es h1).bind fun xs h2 => .ok (ys ++ xs) h2
  | none => .no
theorem xa_star {d : DE} {dr : DA} (he : PEd X ct E e d) (hr : PAd X ct E es dr) (hs : starEach (.Starred e p :: es) X.env = (true, eval e X.env) :: starEach es X.env := by rfl) : PAd X ct E (.Starred e p :: es) (dStarA d dr) := by
  obtain ⟨t, a1, a2⟩ := he
  obtain ⟨u, b1, b2⟩ := hr
  refine ⟨_, StX.pa_star a1 b1 hs, fun ρ σ H es eh Q rel h => ?_⟩
  refine a2.bind rel h fun ρ1 H1 x eh1 v e1 rel1 v1 h1 => ?_
  split at h1
  · rename_i ys hys
    obtain ⟨b, vs, rfl, j1, j2⟩ := items_of rel1.hr v1 hys
    refine ⟨b, vs, rfl, j1, ?_⟩
    refine b2.bind rel1 h1 fun ρ2 H2 xs eh2 us e2 rel2 v2 h2 => ?_
    exact h2 ρ2 H2 _ (Ext.refl _ _ _) rel2.hr ((VRs.mono e2 _ _ j2).append v2)
  · exact h1.elim
def fSlT : EV → Option Int → Option Int → EH → Res EV := fun x lo hi h => match x with
  | .tup xs => if ¬ (HT.sIx xs.length 0 lo = 0 ∧ HT.sIx xs.length xs.length hi = xs.length) then .ok (.tup (cutE xs lo hi)) h else .no
  | _ => .no
theorem xe_sliceT {a : Expr} {lo hi : Option Expr} {p2 pos : Pos} {da : DE} {dl dh : ES → EH → Res (Option Int)} (ha : PEd X ct E a da) (hl : POd X ct E lo dl) (hh : POd X ct E hi dh) : PEd X ct E (.Subscript a (.Slice lo hi none p2) pos) (dSl fSlT da dl dh) := by
  obtain ⟨t, h1, h2⟩ := ha
  obtain ⟨tl, l1, l2⟩ := hl
  obtain ⟨th, k1, k2⟩ := hh
  refine ⟨_, pe_slice sl_tup h1 l1 k1, fun ρ σ H es eh Q rel h => ?_⟩
  refine h2.bind rel h fun ρ1 H1 x eh1 u e1 rel1 v1 h1 => ?_
  refine l2.bind rel1 h1 fun ρ2 H2 l eh2 l' e2 rel2 v2 h2 => ?_
  refine k2.bind rel2 h2 fun ρ3 H3 k eh3 k' e3 rel3 v3 h3 => ?_
  cases v2
  cases v3
  have v1' := (v1.mono e2).mono e3
  unfold fSlT at h3
  split at h3
  · rename_i xs
    split at h3
    · rename_i hw
      obtain ⟨a1, vs, rfl, g2, g3⟩ := vr_tup.mp v1'
      refine ⟨a1, vs, rfl, SqT.of g2, by rw [← g3.length]; exact hw, fun p hp => ?_⟩
      have e4 : Ext X.K ρ3 ρ3 H3 (upd H3 p (.tup (cutV vs l k))) := Ext.side _ hp
      refine h3 ρ3 _ _ e4 (rel3.hr.side _ hp) (vr_tup.mpr ⟨p, _, rfl, upd_same, VRs.mono e4 _ _ ?_⟩)
      unfold cutE cutV
      rw [← g3.length]
      exact (g3.drop _).take _
    · exact h3.elim
  · exact h3.elim
end
def entOf (e : DictEntry) : Option (Str × Int × Int) := match e.key, e.val with
  | .str x _, .int i _ => some (x, e.hash, i)
  | _, _ => none
def tabW (K : PySem.W.Frag) (a : Addr) : Option (List (Option (Str × Int × Int))) := match K.lookup a with
  | some ⟨.type c, none, .dict es _, sl⟩ => (match decide (c = "dict") && (sl.isEmpty && !(a == sysModules)) with
    | true => some (es.toList.map entOf)
    | false => none)
  | _ => none
def tabIn (P : Params) (ks : List (Str × Int)) : List (Option (Str × Int × Int)) := ks.map fun k => some (k.1, PyData.keyHash P k.1, k.2)
def KTab (K : Fg) (w : World) (a : Addr) (tab : List (Str × Int)) : Prop := tabW K a = some (tabIn w.params tab)
theorem ent_lit {P : Params} : ∀ {l : List DictEntry} {ks : List (Str × Int)}, l.map entOf = tabIn P ks → PySem.W.KeysLit P l
  | [], _, _ => trivial
  | e :: r, [], h => by cases h
  | e :: r, k :: ks, h => by
    have h1 : entOf e :: r.map entOf = some (k.1, PyData.keyHash P k.1, k.2) :: tabIn P ks := h
    injection h1 with h2 h3
    refine ⟨?_, ent_lit h3⟩
    unfold entOf at h2
    split at h2
    · rename_i x t i t' q1 q2
      have h4 := Option.some.inj h2
      obtain ⟨h5, h6⟩ := Prod.mk.inj h4
      obtain ⟨h6, h7⟩ := Prod.mk.inj h6
      exact ⟨x, t, q1, by rw [h6, h5]⟩
    · cases h2
theorem ent_find {P : Params} (x : Str) : ∀ {l : List DictEntry} {ks : List (Str × Int)}, l.map entOf = tabIn P ks →
    match ks.lookup x with
    | some i => ∃ e t, l.find? (·.key.isStr x) = some e ∧ e.val = .int i t
    | none => l.find? (·.key.isStr x) = none ∧ l.any (·.refKey) = false
  | [], [], _ => ⟨rfl, rfl⟩
  | [], _ :: _, h => by cases h
  | e :: r, [], h => by cases h
  | e :: r, k :: ks, h => by
    have h1 : entOf e :: r.map entOf = some (k.1, PyData.keyHash P k.1, k.2) :: tabIn P ks := h
    injection h1 with h2 h3
    have ih := ent_find x h3
    unfold entOf at h2
    split at h2
    · rename_i y t i t' q1 q2
      have h4 := Option.some.inj h2
      obtain ⟨h5, h6⟩ := Prod.mk.inj h4
      obtain ⟨h6, h7⟩ := Prod.mk.inj h6
      obtain ⟨ky, ki⟩ := k
      simp only at h5 h7
      subst h5 h7
      by_cases hx : x = y
      · subst hx
        rw [List.lookup_cons_self]
        refine ⟨e, t', ?_, q2⟩
        rw [List.find?_cons_of_pos]
        rw [q1]
        exact beq_self_eq_true x
      · have hb : (x == y) = false := beq_eq_false_iff_ne.mpr hx
        have hk : e.key.isStr x = false := by
          rw [q1]
          show (y == x) = false
          exact beq_eq_false_iff_ne.mpr fun z => hx z.symm
        rw [List.lookup_cons, hb]
        simp only
        cases hl : ks.lookup x with
        | some j =>
          rw [hl] at ih
          obtain ⟨e', t2, f1, f2⟩ := ih
          exact ⟨e', t2, by rw [List.find?_cons_of_neg (by rw [hk]; simp)]; exact f1, f2⟩
        | none =>
          rw [hl] at ih
          refine ⟨by rw [List.find?_cons_of_neg (by rw [hk]; simp)]; exact ih.1, ?_⟩
          rw [List.any_cons, ih.2, Bool.or_false]
          unfold DictEntry.refKey
          rw [q1]
    · cases h2
theorem ktab_ok {K : Fg} {w : World} {a : Addr} {tab : List (Str × Int)} (h : KTab K w a tab) : ∃ es n, K.lookup a = some ⟨.type "dict", none, .dict es n, #[]⟩ ∧ PySem.W.KeysLit w.params es.toList ∧ (a == sysModules) = false ∧
    ∀ x, match tab.lookup x with
      | some i => ∃ t, PySem.W.nsIn K a x = some (some (.int i t))
      | none => PySem.W.nsIn K a x = some none := by
  unfold KTab tabW at h
  split at h
  · rename_i c es n sl q
    split at h
    · rename_i z
      simp only [Bool.and_eq_true, decide_eq_true_eq, Bool.not_eq_true'] at z
      obtain ⟨rfl, z2, z3⟩ := z
      have e2 : sl = #[] := Array.isEmpty_iff.mp z2
      subst e2
      have hm := Option.some.inj h
      refine ⟨es, n, q, ent_lit hm, z3, fun x => ?_⟩
      have f := ent_find x hm
      have hn : PySem.W.nsIn K a x = (match es.toList.find? (·.key.isStr x) with
        | some e => some (some e.val)
        | none => if es.toList.any (·.refKey) then none else some none) := by
        unfold PySem.W.nsIn
        rw [q]
        rfl
      cases hl : tab.lookup x with
      | some i =>
        rw [hl] at f
        obtain ⟨e, t, f1, f2⟩ := f
        refine ⟨t, ?_⟩
        rw [hn, f1]
        simp only
        rw [f2]
      | none =>
        rw [hl] at f
        show PySem.W.nsIn K a x = some none
        rw [hn, f.1]
        simp only
        rw [f.2]
        rfl
    · cases h
  · cases h
theorem ktab_of {K : Fg} {w : World} {a : Addr} {tab : List (Str × Int)} {es : Array DictEntry} {n : Nat} (hl : K.lookup a = some ⟨.type "dict", none, .dict es n, #[]⟩) (hs : (a == sysModules) = false) (he : es.toList.map entOf = tabIn w.params tab) : KTab K w a tab := by
  unfold KTab tabW
  rw [hl]
  simp only [decide_true, Array.isEmpty_empty, hs, Bool.not_false, Bool.and_self, he]
def tKGet (tab : List (Str × Int)) (te : TE) : TE := fun σ H Q => te σ H fun y H1 => ∃ x, y = .str x ∧ Q (match tab.lookup x with
  | some i => .int i
  | none => .non) H1
def dKGet (tab : List (Str × Int)) (a : DE) : DE := fun es h => (a es h).bind fun x h1 => match x with
  | .str s => .ok (match tab.lookup s with
    | some i => .int i
    | none => .non) h1
  | _ => .no
section
variable {X : Cx} {ct : Nat → Addr × List Str} {E : XK} {G : Gx} {e : Expr} {p apos cpos : Pos} {x : Str} {tab : List (Str × Int)}
theorem pe_kget {te : TE} (hg : Gl X x) (hm : ∃ a, X.mg x = some (.ref a) ∧ KTab X.K X.w a tab) (he : PE X e te) (hd : (x == ("__debug__" : Str)) = false := by decide)
    (hs : starEach [e] X.env = [(false, eval e X.env)] := by rfl) (hbase : attributeBase (.Name x p) "get" X.env (eval (.Name x p) X.env) = eval (.Name x p) X.env := by rfl) (hline : (apos.endLine == cpos.line) = true := by rfl) :
    PE X (.Call (.Attribute (.Name x p) "get" apos) [e] [] cpos) (tKGet tab te) := by
  obtain ⟨a, hm, hk⟩ := hm
  obtain ⟨es, n, hl, hlit, low, hf⟩ := ktab_ok hk
  refine ⟨fun pins s σ H Q I h => ?_⟩
  have hn : PE X (.Name x p) (tC (.ref a)) := pe_glob (v := .ref a) hg hm rfl hd
  refine PySem.Call_method1 hbase hs hline (thn (hn.run pins s σ H (fun v H1 => v = .ref a ∧ tKGet tab te σ H1 Q) I (show V.ref a = .ref a ∧ tKGet tab te σ H Q from ⟨rfl, h⟩)) fun v s1 ⟨y, H1, I1, r1, q0, q1⟩ => ?_)
  subst q0
  obtain rfl : v = Value.ref a := r1
  have ho := I1.kIn _ _ hl
  have hty : s1.TypeIs (.ref a) "dict" := ⟨_, ho, rfl⟩
  refine ⟨"dict", _, PySem.F.plainAttrs_dict, PySem.F.slot_dict_get, PySem.F.type_dict_get, hty, (fun b q => by cases q; exact ⟨_, ho, rfl⟩), Calls.callWith_builtin rfl (Calls.evalArgs_plain (Calls.spliced_cons ?_))⟩
  refine thn (he.run pins s1 σ H1 _ I1 q1) fun u s2 ⟨y, H2, I2, r2, z, ey, q2⟩ => Calls.spliced_nil ?_
  subst ey
  obtain ⟨t, rfl⟩ := (show ∃ t, u = Value.str z t from r2)
  have hm' := PySem.W.mapOf_K (prog := X.prog) (w := X.w) I2.kIn hl hlit
  refine call_meetsIn PySem.F.slot_dict_get hm'.typeIs PySem.F.entry_dict_get (PySem.F.args_dict_get_2 _ _) (meets_dict_get (strKind X.prog X.w) a (strKind_is X.prog X.w z t) low) ⟨_, hm', ?_⟩
  have hz := hf z
  cases hz1 : tab.lookup z with
  | some i =>
    rw [hz1] at hz q2
    obtain ⟨t', e1⟩ := hz
    rw [PySem.W.find_K hl e1]
    exact ⟨.int i, H2, I2.tok _, ⟨t', rfl⟩, q2⟩
  | none =>
    rw [hz1] at hz q2
    rw [PySem.W.find_K hl hz]
    exact ⟨.non, H2, I2.tok _, rfl, q2⟩
theorem xe_kget {d : DE} (hg : Gl X x) (hm : ∃ a, X.mg x = some (.ref a) ∧ KTab X.K X.w a tab) (he : PEd X ct E e d) (hd : (x == ("__debug__" : Str)) = false := by decide)
    (hs : starEach [e] X.env = [(false, eval e X.env)] := by rfl) (hbase : attributeBase (.Name x p) "get" X.env (eval (.Name x p) X.env) = eval (.Name x p) X.env := by rfl) (hline : (apos.endLine == cpos.line) = true := by rfl) :
    PEd X ct E (.Call (.Attribute (.Name x p) "get" apos) [e] [] cpos) (dKGet tab d) := by
  obtain ⟨t, a1, a2⟩ := he
  refine ⟨_, pe_kget hg hm a1 hd hs hbase hline, fun ρ σ H es eh Q rel h => ?_⟩
  refine a2.bind rel h fun ρ1 H1 y eh1 u e1 rel1 v1 h1 => ?_
  split at h1
  · rename_i s
    refine ⟨s, vr_str.mp v1, h1 ρ1 H1 _ (Ext.refl _ _ _) rel1.hr ?_⟩
    cases tab.lookup s with
    | some i => exact vr_int.mpr rfl
    | none => exact vr_non.mpr rfl
  · exact h1.elim
end
end EE
set_option Elab.async false
set_option linter.all false
set_option maxRecDepth 100000
set_option maxHeartbeats 1000000
namespace EE
open PySem L2
section
variable (es : ES) (h : EH)
def kSM0 (f : EV → DL) : EV → EH → Res EV := fun x h1 => match x with
  | .str _ => f x [] h1
  | _ => .no
@[simp] theorem ap_sm0 (f : EV → DL) (o : DE) : dSM0 f o es h = (o es h).bind (kSM0 f) := rfl
@[simp] theorem ap_kSM0 (f : EV → DL) (s : Str) : kSM0 f (.str s) h = f (.str s) [] h := rfl
def kSM1b (f : EV → DL) (x : EV) : EV → EH → Res EV := fun y h2 => f x [y] h2
def kSM1 (f : EV → DL) (a : DE) (es : ES) : EV → EH → Res EV := fun x h1 => match x with
  | .str _ => (a es h1).bind (kSM1b f x)
  | _ => .no
@[simp] theorem ap_sm1 (f : EV → DL) (o a : DE) : dSM1 f o a es h = (o es h).bind (kSM1 f a es) := rfl
@[simp] theorem ap_kSM1 (f : EV → DL) (a : DE) (s : Str) : kSM1 f a es (.str s) h = (a es h).bind (kSM1b f (.str s)) := rfl
@[simp] theorem ap_kSM1b (f : EV → DL) (x y : EV) : kSM1b f x y h = f x [y] h := rfl
def kStarA2 (ys : List EV) : List EV → EH → Res (List EV) := fun xs h2 => .ok (ys ++ xs) h2
def kStarA (r : DA) (es : ES) : EV → EH → Res (List EV) := fun x h1 => match itemsE h1 x with
  | some ys => (r es h1).bind (kStarA2 ys)
  | none => .no
@[simp] theorem ap_starA (a : DE) (r : DA) : dStarA a r es h = (a es h).bind (kStarA r es) := rfl
@[simp] theorem ap_kStarA2 (ys xs : List EV) : kStarA2 ys xs h = .ok (ys ++ xs) h := rfl
theorem kStarA_ref {h : EH} (r : DA) {n : Nat} {ys : List EV} (e : lstAt h n = some ys) : kStarA r es (.ref n) h = (r es h).bind (kStarA2 ys) := by
  simp [kStarA, itemsE, e]
theorem kStarA_tup (r : DA) (ys : List EV) : kStarA r es (.tup ys) h = (r es h).bind (kStarA2 ys) := rfl
theorem f_catS (i j : Str) (hl : i.length + j.length ≤ 100000) : fCatS (.str i) (.str j) h = .ok (.str (i ++ j)) h := by
  simp only [fCatS, if_pos hl]
theorem f_strI (i : Int) (hi : i.natAbs < 2 ^ 64) : fStr [.int i] h = .ok (.str (toString i)) h := by
  show (fStrI _ _).orElse _ = _
  simp only [fStrI]
  rw [if_pos]
  · rfl
  · by_cases z : i.natAbs = 0
    · rw [z]
      exact (by decide : Nat.log2 0 < 1920)
    · exact Nat.lt_trans ((Nat.log2_lt z).mpr hi) (by decide)
@[simp] theorem f_strS (s : Str) : fStr [.str s] h = .ok (.str s) h := rfl
theorem f_intS {s : Str} {n : Int} (e : PySem.intText? s = some n) (hl : s.length ≤ 640) : fIntS [.str s] h = .ok (.int n) h := by
  simp only [fIntS, e, if_pos hl]
theorem f_lenS (s : Str) (hl : s.length ≤ 100000) : fLenS [.str s] h = .ok (.int s.length) h := by
  simp only [fLenS, if_pos hl]
theorem m_joinL {h : EH} {a : Str} {n : Nat} {ss : List Str} (e : lstAt h n = some (ss.map EV.str)) (hl : (ss.map (·.length)).sum + ss.length * a.length ≤ 16777216) : mJoin (.str a) [.ref n] h = .ok (.str (Txt.join a ss)) h := by
  simp only [mJoin, e, strsE_map, if_pos hl]
theorem m_splitS (a b : Str) (hb : (b.length == 0) = false) (hl : a.length ≤ 99998) : mSplit (.str a) [.str b] h = .ok (.ref h.length) (h ++ [.lst ((Txt.split a b).map EV.str)]) := by
  simp only [mSplit, if_pos (And.intro hb hl)]
@[simp] theorem m_asciiS (a : Str) : mIsascii (.str a) [] h = .ok (.bl (Txt.isascii a)) h := rfl
@[simp] theorem m_digitS (a : Str) : mIsdigit (.str a) [] h = .ok (.bl (Txt.isdigit a)) h := rfl
@[simp] theorem m_startsS (a b : Str) : mStarts (.str a) [.str b] h = .ok (.bl (Txt.startswith a b)) h := rfl
def kItE : List EV → EH → Res Wlk := fun xs h1 => match xs with
  | [.ref n] => match lstAt h1 n with
    | some _ => .ok ⟨some n, [], fun i x => .tup [.int i, x]⟩ h1
    | none => .no
  | _ => .no
@[simp] theorem ap_itE (a : DA) : dItE a es h = (a es h).bind kItE := rfl
theorem kItE_ref {h : EH} {n : Nat} {xs : List EV} (e : lstAt h n = some xs) : kItE [.ref n] h = .ok ⟨some n, [], fun i x => .tup [.int i, x]⟩ h := by
  simp [kItE, e]
theorem ap_gstarL {h : EH} {n i0 : Nat} {xs : List EV} (r : DGs) (e : lstAt h n = some xs) (hl : i0 ≤ xs.length) : dGStarL i0 r (.ref n) es h = r (xs.take i0 ++ [.ref h.length]) es (h ++ [.lst (xs.drop i0)]) := by
  simp only [dGStarL, e, if_pos hl]
def kKGet (tab : List (Str × Int)) : EV → EH → Res EV := fun x h1 => match x with
  | .str s => .ok (match tab.lookup s with
    | some i => .int i
    | none => .non) h1
  | _ => .no
@[simp] theorem ap_kget (tab : List (Str × Int)) (a : DE) : dKGet tab a es h = (a es h).bind (kKGet tab) := rfl
theorem kKGet_some {tab : List (Str × Int)} {s : Str} {i : Int} (e : tab.lookup s = some i) : kKGet tab (.str s) h = .ok (.int i) h := by
  simp only [kKGet, e]
theorem kKGet_none {tab : List (Str × Int)} {s : Str} (e : tab.lookup s = none) : kKGet tab (.str s) h = .ok .non h := by
  simp only [kKGet, e]
theorem f_slT {xs : List EV} {lo hi : Option Int} (hw : ¬ (HT.sIx xs.length 0 lo = 0 ∧ HT.sIx xs.length xs.length hi = xs.length)) : fSlT (.tup xs) lo hi h = .ok (.tup (cutE xs lo hi)) h := by
  simp only [fSlT, if_pos hw]
theorem f_slT1 (x : EV) (xs : List EV) : fSlT (.tup (x :: xs)) (some 1) none h = .ok (.tup xs) h := by
  rw [f_slT]
  · have e1 : HT.sIx (x :: xs).length 0 (some 1) = 1 := by
      have := HT.sIx_nat (x :: xs).length 0 1
      rw [show (some 1 : Option Int) = some ((1 : Nat) : Int) from rfl, this]
      simp
    have e2 : HT.sIx (x :: xs).length (x :: xs).length none = (x :: xs).length := rfl
    unfold cutE
    rw [e1, e2]
    simp
  · have e1 : HT.sIx (x :: xs).length 0 (some 1) = 1 := by
      have := HT.sIx_nat (x :: xs).length 0 1
      rw [show (some 1 : Option Int) = some ((1 : Nat) : Int) from rfl, this]
      simp
    rw [e1]
    omega
end
end EE
set_option Elab.async false
set_option linter.all false
set_option maxRecDepth 100000
set_option maxHeartbeats 4000000
namespace LW
open PySem L2 EE
def b__law_start : DS :=
  (dSeq (dAsg (dC (.int 1)) (dName 1))
  (dSeq (dFor (dItL (dVar 0)) (dName 2)
  (dAsg (dOp fMod (dOp fAdd (dOp fAdd (dOp fMul (dVar 1) (dC (.int 48271))) (dVar 2)) (dC (.int 7))) (dC (.int 2147483647))) (dName 1)))
  (dRet (dLst (dCons (dVar 0) (dCons (dC (.int 0)) (dCons (dVar 1) (dCons (dC (.int 0)) dNil))))))))
def m__law_start : DL := dDef 1 3 b__law_start
theorem u__law_start (a0 : EV) (h : EH) : m__law_start [a0] h = (b__law_start [some a0, none, none] h).bind kDef := rfl
def b__law_drawn : DS :=
  (dSeq (dIfS (dB (dOp fGt (dOp fIx (dVar 0) (dC (.int 3))) (dC (.int 0)))) (dSeq (dAsg (dOp fMod (dOp fIx (dVar 0) (dC (.int 3))) (dVar 1)) (dName 2))
  (dSeq (dAsg (dOp fDiv (dOp fIx (dVar 0) (dC (.int 3))) (dVar 1)) (dGSub (dVar 0) (dC (.int 3)) sLst))
  (dRet (dVar 2))))
  dNext)
  (dSeq (dAsg (dOp fAdd (dOp fIx (dVar 0) (dC (.int 1))) (dC (.int 1))) (dGSub (dVar 0) (dC (.int 1)) sLst))
  (dSeq (dIfS (dB (dOp fLe (dOp fIx (dVar 0) (dC (.int 1))) (dCB fLen (dCons (dOp fIx (dVar 0) (dC (.int 0))) dNil)))) (dSeq (dAsg (dOp fIx (dOp fIx (dVar 0) (dC (.int 0))) (dOp fSub (dOp fIx (dVar 0) (dC (.int 1))) (dC (.int 1)))) (dName 3))
  (dSeq (dAsg (dIf (dB (dOp fGe (dVar 3) (dOp fPow (dC (.int 10)) (dC (.int 18))))) (dOp fDiv (dVar 3) (dVar 1)) (dC (.int 0))) (dGSub (dVar 0) (dC (.int 3)) sLst))
  (dRet (dOp fMod (dVar 3) (dVar 1)))))
  dNext)
  (dSeq (dAsg (dOp fMod (dOp fAdd (dOp fMul (dOp fIx (dVar 0) (dC (.int 2))) (dC (.int 48271))) (dC (.int 11))) (dC (.int 2147483647))) (dGSub (dVar 0) (dC (.int 2)) sLst))
  (dRet (dOp fMod (dOp fDiv (dOp fIx (dVar 0) (dC (.int 2))) (dC (.int 7))) (dVar 1)))))))
def m__law_drawn : DL := dDef 2 4 b__law_drawn
theorem u__law_drawn (a0 : EV) (a1 : EV) (h : EH) : m__law_drawn [a0, a1] h = (b__law_drawn [some a0, some a1, none, none] h).bind kDef := rfl
def b__law_same (rec : DL) : DS :=
  (dSeq (dIfS (dB (fIsi2 .tuple_ .list_ (dVar 1))) (dSeq (dIfS (dOr (dNot (dB (fIsi2 .tuple_ .list_ (dVar 0)))) (dB (dOp fNe (fIsi .list_ (dVar 0)) (fIsi .list_ (dVar 1))))) (dRet (dC (.bl false)))
  dNext)
  (dSeq (dIfS (dB (dOp fNe (dCB fLen (dCons (dVar 0) dNil)) (dCB fLen (dCons (dVar 1) dNil)))) (dRet (dC (.bl false)))
  dNext)
  (dRet (dOp fEq (dLc (dItR1 (dCons (dCB fLen (dCons (dVar 1) dNil)) dNil)) (dName 2) (dNot (dB (dCall rec (dCons (dOp fIx (dVar 0) (dVar 2)) (dCons (dOp fIx (dVar 1) (dVar 2)) dNil))))) (dVar 2) [2]) (dLst dNil)))))
  dNext)
  (dSeq (dIfS (dB (dOp (fIsN false) (dVar 1) (dC .non))) (dRet (dOp (fIsN false) (dVar 0) (dC .non)))
  dNext)
  (dSeq (dIfS (dB (fIsi .str_ (dVar 1))) (dRet (dAndV (fIsi .str_ (dVar 0)) (dOp fEq (dVar 0) (dVar 1))))
  dNext)
  (dSeq (dIfS (dOr (dB (fIsi .bool_ (dVar 1))) (dB (fIsi .bool_ (dVar 0)))) (dRet (dAndV (fIsi .bool_ (dVar 1)) (dAndV (fIsi .bool_ (dVar 0)) (dOp fEq (dVar 0) (dVar 1)))))
  dNext)
  (dRet (dAndV (fIsi .int_ (dVar 0)) (dOp fEq (dVar 0) (dVar 1))))))))
def m__law_same : Nat → DL
  | 0 => fun _ _ => .no
  | n + 1 => dDef 2 3 (b__law_same (m__law_same n))
theorem u__law_same (n : Nat) (a0 : EV) (a1 : EV) (h : EH) : m__law_same (n + 1) [a0, a1] h = (b__law_same (m__law_same n) [some a0, some a1, none] h).bind kDef := rfl
def b__law_ties : DS :=
  (dSeq (dAsg (dLst dNil) (dName 2))
  (dSeq (dFor (dItR1 (dCons (dCall m__law_drawn (dCons (dVar 0) (dCons (dOp fIx (dLst (dCons (dC (.int 3)) (dCons (dOp fAdd (dVar 1) (dC (.int 1))) (dCons (dOp fMul (dC (.int 3)) (dVar 1)) dNil)))) (dCall m__law_drawn (dCons (dVar 0) (dCons (dC (.int 3)) dNil)))) dNil))) dNil)) (dName 3)
  (dSeq (dAsg (dCall m__law_drawn (dCons (dVar 0) (dCons (dVar 1) dNil))) (dName 4))
  (dSeq (dAsg (dOp fMod (dOp fAdd (dOp fAdd (dVar 4) (dC (.int 1))) (dCall m__law_drawn (dCons (dVar 0) (dCons (dOp fSub (dVar 1) (dC (.int 1))) dNil)))) (dVar 1)) (dName 5))
  (dDrop (dBM mApp (dVar 2) (dCons (dTup (dCons (dVar 4) (dCons (dVar 5) dNil))) dNil))))))
  (dSeq (dIfS (dB (dOp fEq (dCall m__law_drawn (dCons (dVar 0) (dCons (dC (.int 3)) dNil))) (dC (.int 0)))) (dAsg (dOp fAdd (dVar 2) (dSl fSl (dLc (dItR1 (dCons (dOp fSub (dVar 1) (dC (.int 1))) dNil)) (dName 6) dYes (dTup (dCons (dVar 6) (dCons (dOp fAdd (dVar 6) (dC (.int 1))) dNil))) [6]) (dPart (some (dCall m__law_drawn (dCons (dVar 0) (dCons (dC (.int 2)) dNil))))) (dPart none))) (dName 2))
  dNext)
  (dRet (dVar 2)))))
def m__law_ties : DL := dDef 2 7 b__law_ties
theorem u__law_ties (a0 : EV) (a1 : EV) (h : EH) : m__law_ties [a0, a1] h = (b__law_ties [some a0, some a1, none, none, none, none, none] h).bind kDef := rfl
def b__law_near : DS :=
  (dRet (dLc (dItR1 (dCons (dVar 0) dNil)) (dName 2) dYes (dLc (dItR1 (dCons (dVar 0) dNil)) (dName 3) (dOr (dB (dOp fIn (dTup (dCons (dVar 2) (dCons (dVar 3) dNil))) (dVar 1))) (dB (dOp fIn (dTup (dCons (dVar 3) (dCons (dVar 2) dNil))) (dVar 1)))) (dVar 3) [3]) [2]))
def m__law_near : DL := dDef 2 4 b__law_near
theorem u__law_near (a0 : EV) (a1 : EV) (h : EH) : m__law_near [a0, a1] h = (b__law_near [some a0, some a1, none, none] h).bind kDef := rfl
def b_is_whole : DS :=
  (dSeq (dIfS (dOr (dB (fIsi .bool_ (dVar 0))) (dNot (dB (fIsi .int_ (dVar 0))))) (dRet (dC (.bl false)))
  dNext)
  (dRet (dChain fLe fLe (dVar 1) (dVar 0) (dVar 2))))
def m_is_whole : DL := dDef 3 3 b_is_whole
theorem u_is_whole (a0 : EV) (a1 : EV) (a2 : EV) (h : EH) : m_is_whole [a0, a1, a2] h = (b_is_whole [some a0, some a1, some a2] h).bind kDef := rfl
def b_is_two : DS :=
  (dSeq (dIfS (dOr (dNot (dB (fIsi .tuple_ (dVar 0)))) (dB (dOp fNe (dCB fLen (dCons (dVar 0) dNil)) (dC (.int 2))))) (dRet (dC (.bl false)))
  dNext)
  (dRet (dAndV (dCall m_is_whole (dCons (dOp fIx (dVar 0) (dC (.int 0))) (dCons (dC (.int 0)) (dCons (dVar 1) dNil)))) (dCall m_is_whole (dCons (dOp fIx (dVar 0) (dC (.int 1))) (dCons (dC (.int 0)) (dCons (dVar 2) dNil)))))))
def m_is_two : DL := dDef 3 3 b_is_two
theorem u_is_two (a0 : EV) (a1 : EV) (a2 : EV) (h : EH) : m_is_two [a0, a1, a2] h = (b_is_two [some a0, some a1, some a2] h).bind kDef := rfl
def b_is_pair : DS :=
  (dRet (dCall m_is_two (dCons (dVar 0) (dCons (dOp fSub (dVar 1) (dC (.int 1))) (dCons (dOp fSub (dVar 1) (dC (.int 1))) dNil)))))
def m_is_pair : DL := dDef 2 2 b_is_pair
theorem u_is_pair (a0 : EV) (a1 : EV) (h : EH) : m_is_pair [a0, a1] h = (b_is_pair [some a0, some a1] h).bind kDef := rfl
def b_check_count : DS :=
  (dIfS (dNot (dB (dCall m_is_whole (dCons (dVar 0) (dCons (dC (.int 2)) (dCons (dC (.int 8)) dNil)))))) dNever
  dNext)
def m_check_count : DL := dDef 1 1 b_check_count
theorem u_check_count (a0 : EV) (h : EH) : m_check_count [a0] h = (b_check_count [some a0] h).bind kDef := rfl
def b_check_house : DS :=
  (dIfS (dNot (dB (dCall m_is_whole (dCons (dVar 0) (dCons (dC (.int 0)) (dCons (dOp fSub (dVar 1) (dC (.int 1))) dNil)))))) dNever
  dNext)
def m_check_house : DL := dDef 2 2 b_check_house
theorem u_check_house (a0 : EV) (a1 : EV) (h : EH) : m_check_house [a0, a1] h = (b_check_house [some a0, some a1] h).bind kDef := rfl
def b__neighbours : DS :=
  (dSeq (dDrop (dCall m_check_count (dCons (dVar 0) dNil)))
  (dSeq (dFor (dItL (dVar 1)) (dName 2)
  (dIfS (dOr (dNot (dB (dCall m_is_pair (dCons (dVar 2) (dCons (dVar 0) dNil))))) (dB (dOp fEq (dOp fIx (dVar 2) (dC (.int 0))) (dOp fIx (dVar 2) (dC (.int 1)))))) dNever
  dNext))
  (dSeq (dAsg (dLc (dItR1 (dCons (dVar 0) dNil)) (dName 6) dYes (dLst dNil) [6]) (dName 3))
  (dSeq (dFor (dItL (dVar 1)) (dGTup 2 (dGCons (dName 4) (dGCons (dName 5) dGNil)))
  (dSeq (dDrop (dBM mApp (dOp fIx (dVar 3) (dVar 4)) (dCons (dVar 5) dNil)))
  (dDrop (dBM mApp (dOp fIx (dVar 3) (dVar 5)) (dCons (dVar 4) dNil)))))
  (dRet (dVar 3))))))
def m__neighbours : DL := dDef 2 7 b__neighbours
theorem u__neighbours (a0 : EV) (a1 : EV) (h : EH) : m__neighbours [a0, a1] h = (b__neighbours [some a0, some a1, none, none, none, none, none] h).bind kDef := rfl
end LW
set_option Elab.async false
set_option linter.all false
set_option maxRecDepth 100000
set_option maxHeartbeats 4000000
namespace LW
open PySem L2 EE
def StO (o : EO) : Prop := ∃ b x l : Int, o = .lst [.ref 0, .int b, .int x, .int l] ∧ 0 ≤ b ∧ 0 ≤ x ∧ x < 2147483647
def St (ns : List Int) (h : EH) (s : Nat) : Prop := ∃ o, h[s]? = some o ∧ StO o ∧ h[0]? = some (.ro (ns.map EV.int)) ∧ s ≠ 0
theorem St.set {ns : List Int} {h : EH} {s : Nat} {o : EO} (hs : St ns h s) (ho : StO o) : St ns (h.set s o) s := by
  obtain ⟨o', h1, h2, h3, h4⟩ := hs
  exact ⟨o, List.getElem?_set_self (List.getElem?_eq_some_iff.mp h1).1, ho, by rw [List.getElem?_set_ne h4]; exact h3, h4⟩
theorem St.lt {ns : List Int} {h : EH} {s : Nat} (hs : St ns h s) : s < h.length := by
  obtain ⟨o', h1, _⟩ := hs
  exact (List.getElem?_eq_some_iff.mp h1).1
theorem St.fr {ns : List Int} {h h' : EH} {s : Nat} (hs : St ns h s) (f : Fr [] h h') : St ns h' s := by
  obtain ⟨o', h1, h2, h3, h4⟩ := hs
  exact ⟨o', f.at h1 (by simp), h2, f.at h3 (by simp), h4⟩
theorem drawn {ns : List Int} {h : EH} {s : Nat} {m : Int} {Q : EV → EH → Prop} (hs : St ns h s) (h0 : 0 < m) (h1 : m ≤ 1000000000000000000) (q : ∀ (r : Int) o, 0 ≤ r → r < m → StO o → Q (.int r) (h.set s o)) : Tri (m__law_drawn [.ref s, .int m] h) Q := by
  obtain ⟨o, g1, ⟨b, x, l, rfl, hb, hx, hx2⟩, g3, g4⟩ := hs
  have hsl := (List.getElem?_eq_some_iff.mp g1).1
  have e : mutAt h s = some [.ref 0, .int b, .int x, .int l] := by unfold mutAt; rw [g1]
  have e' := lst_mut e
  have i3 : fIx (.ref s) (.int 3) h = .ok (.int l) h := f_ixL 3 e' 3 rfl rfl
  have i1 : fIx (.ref s) (.int 1) h = .ok (.int b) h := f_ixL 1 e' 1 rfl rfl
  have m64 : m < 18446744073709551616 := by omega
  rw [u__law_drawn]
  by_cases hl : 0 < l
  · simp [b__law_drawn, i3, hl, f_mod _ _ _ h0, f_div _ _ _ h0 m64, s_lst 3 e 3 rfl (by simp)]
    exact q _ _ (Int.emod_nonneg _ (by omega)) (Int.emod_lt_of_pos _ h0) ⟨b, x, l / m, rfl, hb, hx, hx2⟩
  · simp [b__law_drawn, i3, hl, i1, s_lst 1 e 1 rfl (by simp)]
    generalize eh1 : h.set s (.lst [.ref 0, .int (b + 1), .int x, .int l]) = h1
    have l1 : s < h1.length := by rw [← eh1, List.length_set]; exact hsl
    have e1 : mutAt h1 s = some [.ref 0, .int (b + 1), .int x, .int l] := by rw [← eh1]; exact mutAt_set hsl
    have e1' := lst_mut e1
    have es : lstAt h1 0 = some (ns.map EV.int) := by
      rw [← eh1, lstAt_ne g4]
      unfold lstAt
      rw [g3]
    have j1 : fIx (.ref s) (.int 1) h1 = .ok (.int (b + 1)) h1 := f_ixL 1 e1' 1 rfl rfl
    have j0 : fIx (.ref s) (.int 0) h1 = .ok (.ref 0) h1 := f_ixL 0 e1' 0 rfl rfl
    have j2 : fIx (.ref s) (.int 2) h1 = .ok (.int x) h1 := f_ixL 2 e1' 2 rfl rfl
    have hset : ∀ o, h1.set s o = h.set s o := fun o => by rw [← eh1, List.set_set]
    by_cases hn : b + 1 ≤ (ns.length : Int)
    · obtain ⟨k, rfl⟩ := Int.eq_ofNat_of_zero_le hb
      have hk : k < ns.length := by omega
      have jc : fIx (.ref 0) (.int (k : Int)) h1 = .ok (.int ns[k]) h1 := f_ixL _ es k rfl (by rw [List.getElem?_map, List.getElem?_eq_getElem hk]; rfl)
      by_cases hc : 1000000000000000000 ≤ ns[k]
      · simp [j0, j1, f_len es, hn, jc, hc, f_div _ _ _ h0 m64, s_lst 3 e1 3 rfl (by simp), f_mod _ _ _ h0, hset]
        exact q _ _ (Int.emod_nonneg _ (by omega)) (Int.emod_lt_of_pos _ h0) ⟨_, _, _, rfl, by omega, hx, hx2⟩
      · simp [j0, j1, f_len es, hn, jc, hc, f_div _ _ _ h0 m64, s_lst 3 e1 3 rfl (by simp), f_mod _ _ _ h0, hset]
        exact q _ _ (Int.emod_nonneg _ (by omega)) (Int.emod_lt_of_pos _ h0) ⟨_, _, _, rfl, by omega, hx, hx2⟩
    · simp [j0, j1, j2, f_len es, hn, f_mul _ _ _ (show -18446744073709551616 < (48271 : Int) by decide) (by decide), f_mod _ _ _ (show (0 : Int) < 2147483647 by decide), s_lst 2 e1 2 rfl (by simp)]
      have hx0 : 0 ≤ (x * 48271 + 11) % 2147483647 := Int.emod_nonneg _ (by decide)
      have hx1 : (x * 48271 + 11) % 2147483647 < 2147483647 := Int.emod_lt_of_pos _ (by decide)
      generalize (x * 48271 + 11) % 2147483647 = x' at hx0 hx1
      rw [hset]
      have k2 : fIx (.ref s) (.int 2) (h.set s (.lst [.ref 0, .int (b + 1), .int x', .int l])) = .ok (.int x') (h.set s (.lst [.ref 0, .int (b + 1), .int x', .int l])) := f_ixL 2 (lstAt_set hsl) 2 rfl rfl
      simp [k2, f_div _ _ _ (show (0 : Int) < 7 by decide) (by decide), f_mod _ _ _ h0]
      exact q _ _ (Int.emod_nonneg _ (by omega)) (Int.emod_lt_of_pos _ h0) ⟨_, _, _, rfl, by omega, hx0, hx1⟩
theorem drawnF {ns : List Int} {h : EH} {s : Nat} {m : Int} {Q : EV → EH → Prop} (hs : St ns h s) (h0 : 0 < m) (h1 : m ≤ 1000000000000000000) (q : ∀ (r : Int) h', 0 ≤ r → r < m → St ns h' s → Fr [s] h h' → h'.length = h.length → Q (.int r) h') : Tri (m__law_drawn [.ref s, .int m] h) Q :=
  drawn hs h0 h1 fun r o a b ho => q r _ a b (hs.set ho) ((Fr.refl _ _).set (.inl (by simp))) (List.length_set ..)
theorem start {ns : List Int} {h : EH} {Q : EV → EH → Prop} (hs : h[0]? = some (.ro (ns.map EV.int))) (q : ∀ h', St ns h' h.length → Fr [] h h' → Q (.ref h.length) h') : Tri (m__law_start [.ref 0] h) Q := by
  have es : lstAt h 0 = some (ns.map EV.int) := by
    unfold lstAt
    rw [hs]
  rw [u__law_start]
  simp [b__law_start, kItL_ref es, tri_bind]
  refine tri_for (xs := ns.map EV.int) (fun i es' h' => h' = h ∧ ∃ x c, es' = [some (.ref 0), some (.int x), c] ∧ 0 ≤ x ∧ x < 2147483647) ⟨rfl, 1, none, rfl, by decide, by decide⟩ (fun i es' h' ⟨e, _⟩ => by subst e; exact es) ?_ ?_
  · rintro i v es' h' K hv ⟨rfl, x, c, rfl, hx, hx2⟩ hK _ _ _
    rw [List.getElem?_map] at hv
    obtain ⟨n, hn, rfl⟩ := Option.map_eq_some_iff.mp hv
    simp [f_mul _ _ _ (show -18446744073709551616 < (48271 : Int) by decide) (by decide), f_mod _ _ _ (show (0 : Int) < 2147483647 by decide)]
    exact hK _ _ ⟨rfl, _, _, rfl, Int.emod_nonneg _ (by decide), Int.emod_lt_of_pos _ (by decide)⟩
  · rintro es' h' ⟨rfl, x, c, rfl, hx, hx2⟩
    simp
    refine q _ ⟨_, by simp, ⟨0, x, 0, rfl, by decide, hx, hx2⟩, ?_, ?_⟩ (Fr.app _ _ _)
    · rw [List.getElem?_append_left (List.getElem?_eq_some_iff.mp hs).1]
      exact hs
    · have := (List.getElem?_eq_some_iff.mp hs).1
      omega
end LW
set_option Elab.async false
set_option linter.all false
set_option maxRecDepth 100000
set_option maxHeartbeats 4000000
namespace LW
open PySem L2 EE
mutual
def Dt (h : EH) : PyData → EV → Prop
  | .none, x => x = .non
  | .bool b, x => x = .bl b
  | .int i, x => x = .int i
  | .str s, x => x = .str s
  | .list ds, x => ∃ n xs, x = .ref n ∧ lstAt h n = some xs ∧ Dts h ds xs
  | .tuple ds, x => ∃ xs, x = .tup xs ∧ Dts h ds xs
  | .dict _, _ => False
def Dts (h : EH) : List PyData → List EV → Prop
  | [], xs => xs = []
  | d :: ds, xs => ∃ x r, xs = x :: r ∧ Dt h d x ∧ Dts h ds r
end
mutual
theorem Dt.fr {h h' : EH} (f : Fr [] h h') : ∀ (d : PyData) (x : EV), Dt h d x → Dt h' d x
  | .none, x, e => by simp only [Dt] at e ⊢; exact e
  | .bool b, x, e => by simp only [Dt] at e ⊢; exact e
  | .int b, x, e => by simp only [Dt] at e ⊢; exact e
  | .str b, x, e => by simp only [Dt] at e ⊢; exact e
  | .list ds, x, e => by
    simp only [Dt] at e ⊢
    obtain ⟨n, xs, e1, e2, e3⟩ := e
    exact ⟨n, xs, e1, f.lst e2 (by simp), Dts.fr f ds xs e3⟩
  | .tuple ds, x, e => by
    simp only [Dt] at e ⊢
    obtain ⟨xs, e1, e3⟩ := e
    exact ⟨xs, e1, Dts.fr f ds xs e3⟩
  | .dict _, x, e => by simp only [Dt] at e
theorem Dts.fr {h h' : EH} (f : Fr [] h h') : ∀ (d : List PyData) (x : List EV), Dts h d x → Dts h' d x
  | [], x, e => by simp only [Dts] at e ⊢; exact e
  | d :: ds, x, e => by
    simp only [Dts] at e ⊢
    obtain ⟨y, r, e1, e2, e3⟩ := e
    exact ⟨y, r, e1, Dt.fr f d y e2, Dts.fr f ds r e3⟩
end
theorem Dts.length {h : EH} : ∀ {ds : List PyData} {xs : List EV}, Dts h ds xs → xs.length = ds.length
  | [], xs, e => by simp only [Dts] at e; subst e; rfl
  | d :: ds, xs, e => by
    simp only [Dts] at e
    obtain ⟨x, r, rfl, _, e3⟩ := e
    simp [Dts.length e3]
theorem Dts.get {h : EH} : ∀ {ds : List PyData} {xs : List EV} {i : Nat} {d : PyData}, Dts h ds xs → ds[i]? = some d → ∃ x, xs[i]? = some x ∧ Dt h d x
  | [], xs, i, d, e, he => by simp at he
  | d :: ds, xs, 0, d', e, he => by
    simp only [Dts] at e
    obtain ⟨x, r, rfl, e2, e3⟩ := e
    simp only [List.getElem?_cons_zero, Option.some.injEq] at he
    subst he
    exact ⟨x, rfl, e2⟩
  | d :: ds, xs, i + 1, d', e, he => by
    simp only [Dts] at e
    obtain ⟨x, r, rfl, e2, e3⟩ := e
    simp only [List.getElem?_cons_succ] at he ⊢
    exact Dts.get e3 he
theorem depth_get : ∀ {ds : List PyData} {i : Nat} {d : PyData}, ds[i]? = some d → d.depth ≤ PyData.depthAll ds
  | [], i, d, he => by simp at he
  | d :: ds, 0, d', he => by
    simp only [List.getElem?_cons_zero, Option.some.injEq] at he
    subst he
    simp only [PyData.depthAll]
    omega
  | d :: ds, i + 1, d', he => by
    simp only [List.getElem?_cons_succ] at he
    have := depth_get he
    simp only [PyData.depthAll]
    omega
theorem f_eqNil {h : EH} {a b : Nat} (ha : lstAt h a = some []) (hb : lstAt h b = some []) : fEq (.ref a) (.ref b) h = .ok (.bl true) h := by
  show (Res.no).orElse _ = _
  simp only [orE_no]
  have key : ∀ k, lstAt h k = some [] → dat h (.ref k) = some (.list []) := fun k hk => by
    unfold dat
    simp only [dat0, datF, hk, dat0s, Option.map_some]
  simp only [fEqD, key a ha, key b hb]
  rfl
theorem rng_at {n i : Nat} {x : EV} (h : (rng 0 n)[i]? = some x) : i < n ∧ x = .int (i : Int) := by
  obtain ⟨h1, h2⟩ := rng_get h
  exact ⟨h1, by rw [h2]; congr 1; omega⟩
mutual
def sm : PyData → Bool
  | .none => true
  | .bool _ => true
  | .int _ => true
  | .str _ => true
  | .list ds => decide (ds.length < 40000) && sms ds
  | .tuple ds => decide (ds.length < 40000) && sms ds
  | .dict _ => false
def sms : List PyData → Bool
  | [] => true
  | d :: ds => sm d && sms ds
end
theorem sm_get : ∀ {ds : List PyData} {i : Nat} {d : PyData}, sms ds = true → ds[i]? = some d → sm d = true
  | [], i, d, _, he => by simp at he
  | d :: ds, 0, d', hs, he => by
    simp only [List.getElem?_cons_zero, Option.some.injEq] at he
    subst he
    simp only [sms, Bool.and_eq_true] at hs
    exact hs.1
  | d :: ds, i + 1, d', hs, he => by
    simp only [List.getElem?_cons_succ] at he
    simp only [sms, Bool.and_eq_true] at hs
    exact sm_get hs.2 he
theorem same_comp {rec : DL} {h : EH} {ds : List PyData} {X Y : EV} {xs ys : List EV} (hx : Dts h ds xs) (hy : Dts h ds ys) (hl : ds.length < 40000)
    (ix : ∀ h', Fr [] h h' → ∀ (i : Nat) (x : EV), xs[i]? = some x → fIx X (.int (i : Int)) h' = .ok x h') (iy : ∀ h', Fr [] h h' → ∀ (i : Nat) (x : EV), ys[i]? = some x → fIx Y (.int (i : Int)) h' = .ok x h')
    (ih : ∀ h', Fr [] h h' → ∀ (i : Nat) (d : PyData) (x y : EV), ds[i]? = some d → Dt h' d x → Dt h' d y → Tri (rec [x, y] h') fun v h2 => v = .bl true ∧ Fr [] h' h2)
    {Q : EV → EH → Prop} (q : ∀ k h', lstAt h' k = some [] → Fr [] h h' → Q (.ref k) h') :
    Tri (kLc (dName 2) (dNot (dB (dCall rec (dCons (dOp fIx (dVar 0) (dVar 2)) (dCons (dOp fIx (dVar 1) (dVar 2)) dNil))))) (dVar 2) [2] [some X, some Y, none] ⟨none, rng 0 (ds.length : Int).toNat, fun _ x => x⟩ h) Q := by
  refine tri_lcP (xs := rng 0 (ds.length : Int).toNat) (fun _ => false) (fun _ => .non) (by rw [rng_len]; omega) (fun h' _ => rfl) (fun i x h' K hxi hf hK => ?_) (fun _ _ _ _ _ _ hp _ => by cases hp) fun h' hf => ?_
  · obtain ⟨h1, rfl⟩ := rng_at hxi
    have hi : i < ds.length := by omega
    obtain ⟨x, e1, e2⟩ := hx.get (List.getElem?_eq_getElem hi)
    obtain ⟨y, e3, e4⟩ := hy.get (List.getElem?_eq_getElem hi)
    simp [wip, ix h' hf i x e1, iy h' hf i y e3, tri_bind]
    refine (ih h' hf i _ x y (List.getElem?_eq_getElem hi) (Dt.fr hf _ _ e2) (Dt.fr hf _ _ e4)).mono ?_
    rintro v h2 ⟨rfl, f2⟩
    exact hK _ f2
  · refine q _ _ ?_ (hf.trans (Fr.app _ _ _))
    rw [gvn_false]
    simp
theorem same : ∀ (n : Nat) (d : PyData) (x y : EV) (h : EH), Dt h d x → Dt h d y → d.depth < n → sm d = true → Tri (m__law_same n [x, y] h) fun v h' => v = .bl true ∧ Fr [] h h'
  | 0, d, x, y, h, _, _, hd, _ => by omega
  | n + 1, .none, x, y, h, hx, hy, hd, _ => by
    simp only [Dt] at hx hy
    subst hx hy
    rw [u__law_same]
    simp [b__law_same, Ty.isa, Fr.refl]
  | n + 1, .bool b, x, y, h, hx, hy, hd, _ => by
    simp only [Dt] at hx hy
    subst hx hy
    rw [u__law_same]
    simp [b__law_same, Ty.isa, Fr.refl]
  | n + 1, .int b, x, y, h, hx, hy, hd, _ => by
    simp only [Dt] at hx hy
    subst hx hy
    rw [u__law_same]
    simp [b__law_same, Ty.isa, Fr.refl]
  | n + 1, .str b, x, y, h, hx, hy, hd, _ => by
    simp only [Dt] at hx hy
    subst hx hy
    rw [u__law_same]
    simp [b__law_same, Ty.isa, Fr.refl]
  | n + 1, .dict _, x, y, h, hx, hy, hd, _ => by simp only [Dt] at hx
  | n + 1, .tuple ds, x, y, h, hx, hy, hd, hs => by
    simp only [Dt] at hx hy
    obtain ⟨xs, rfl, hx⟩ := hx
    obtain ⟨ys, rfl, hy⟩ := hy
    simp only [sm, Bool.and_eq_true, decide_eq_true_eq] at hs
    rw [u__law_same]
    simp [b__law_same, Ty.isa, Fr.refl, hx.length, hy.length, ap_kItR1 h (ds.length : Int) (by omega) (by omega), tri_bind]
    refine same_comp hx hy hs.1 (fun h' _ i x e => f_ixT _ i rfl e) (fun h' _ i x e => f_ixT _ i rfl e) (fun h' hf i d x y hd2 h1 h2 => same n d x y h' h1 h2 (by have := depth_get hd2; simp only [PyData.depth] at hd; omega) (sm_get hs.2 hd2)) fun k h' hk hf => ?_
    simp [f_eqNil (lstAt_app hk) lstAt_new, hf.trans (Fr.app _ _ _)]
  | n + 1, .list ds, x, y, h, hx, hy, hd, hs => by
    simp only [Dt] at hx hy
    obtain ⟨a, xs, rfl, hxs, hx⟩ := hx
    obtain ⟨b, ys, rfl, hys, hy⟩ := hy
    simp only [sm, Bool.and_eq_true, decide_eq_true_eq] at hs
    rw [u__law_same]
    simp [b__law_same, Ty.isa, Fr.refl, hx.length, hy.length, kIsi2_lst _ _ hxs, kIsi2_lst _ _ hys, kIsi_lst _ hxs, kIsi_lst _ hys, f_len hxs, f_len hys, ap_kItR1 h (ds.length : Int) (by omega) (by omega), tri_bind]
    refine same_comp hx hy hs.1 (fun h' f i x e => f_ixL _ (f.lst hxs (by simp)) i rfl e) (fun h' f i x e => f_ixL _ (f.lst hys (by simp)) i rfl e) (fun h' hf i d x y hd2 h1 h2 => same n d x y h' h1 h2 (by have := depth_get hd2; simp only [PyData.depth] at hd; omega) (sm_get hs.2 hd2)) fun k h' hk hf => ?_
    simp [f_eqNil (lstAt_app hk) lstAt_new, hf.trans (Fr.app _ _ _)]
end LW
set_option Elab.async false
set_option linter.all false
set_option maxRecDepth 100000
set_option maxHeartbeats 4000000
namespace K13
open PySem PySem.Spec PyProof.Rows L2 EE
def topS (i : Nat) : Stmt := PySem.Challenge.pw_newsflood_k13_written_and_read.main.body.getD i (.Pass ⟨0, 0, 0, 0⟩)
def tab_COUNTS : List (Str × Int) := [("write", 3), ("back", 2), ("day", 2), ("days", 1), ("tie", 2), ("untie", 2), ("send", 1), ("carry", 1), ("lose", 1), ("twice", 1), ("settle", 0)]
abbrev s__law_start : Stmt := topS 11
theorem sc__law_start : FnScope ["_law_script", "_law_mixed", "_law_cell"] ["_law_script"] (defScope s__law_start) := ⟨rfl, rfl, rfl, by decide +kernel, rfl, by decide +kernel, by decide +kernel⟩
abbrev s__law_drawn : Stmt := topS 12
theorem sc__law_drawn : FnScope ["_law_state", "_law_many", "_law_found", "_law_cell"] ["_law_state", "_law_many"] (defScope s__law_drawn) := ⟨rfl, rfl, rfl, by decide +kernel, rfl, by decide +kernel, by decide +kernel⟩
abbrev s__law_play : Stmt := topS 14
theorem sc__law_play : FnScope ["_law_state", "_law_sizes", "_law_found", "_law_turn", "_law_word", "_law_numbers", "_law_k"] ["_law_state"] (defScope s__law_play) := ⟨rfl, rfl, rfl, by decide +kernel, rfl, by decide +kernel, by decide +kernel⟩
def b__law_play : DS :=
  (dSeq (dAsg (dDisp [((dC (.str "write")), (dC (.int 3))), ((dC (.str "back")), (dC (.int 2))), ((dC (.str "day")), (dC (.int 2))), ((dC (.str "days")), (dC (.int 1))), ((dC (.str "tie")), (dC (.int 2))), ((dC (.str "untie")), (dC (.int 2))), ((dC (.str "send")), (dC (.int 1))), ((dC (.str "carry")), (dC (.int 1))), ((dC (.str "lose")), (dC (.int 1)))]) (dName 1))
  (dSeq (dDrop (dBMD mUpdK (dVar 1) (dCons (dDisp [((dC (.str "twice")), (dC (.int 1))), ((dC (.str "settle")), (dC (.int 0)))]) dNil)))
  (dSeq (dAsg (dLst dNil) (dName 2))
  (dSeq (dFor (dItR1 (dCons (dCall LW.m__law_drawn (dCons (dVar 0) (dCons (dC (.int 21)) dNil))) dNil)) (dName 3)
  (dSeq (dAsg (dOp fIx (dCB fSortK (dCons (dVar 1) dNil)) (dCall LW.m__law_drawn (dCons (dVar 0) (dCons (dC (.int 11)) dNil)))) (dName 4))
  (dSeq (dAsg (dLc (dItR1 (dCons (dOp fDGet (dVar 1) (dVar 4)) dNil)) (dName 6) dYes (dCall LW.m__law_drawn (dCons (dVar 0) (dCons (dOp fIx (dLst (dCons (dC (.int 3)) (dCons (dC (.int 10)) (dCons (dC (.int 100000)) dNil)))) (dCall LW.m__law_drawn (dCons (dVar 0) (dCons (dC (.int 3)) dNil)))) dNil))) [6]) (dName 5))
  (dDrop (dBM mApp (dVar 2) (dCons (dCB fTupL (dCons (dOp fAdd (dLst (dCons (dVar 4) dNil)) (dVar 5)) dNil)) dNil))))))
  (dRet (dVar 2))))))
def m__law_play : DL := dDef 1 7 b__law_play
theorem u__law_play (a0 : EV) (h : EH) : m__law_play [a0] h = (b__law_play [some a0, none, none, none, none, none, none] h).bind kDef := rfl
abbrev s__is_number : Stmt := topS 9
theorem sc__is_number : FnScope ["part"] ["part"] (defScope s__is_number) := ⟨rfl, rfl, rfl, by decide +kernel, rfl, by decide +kernel, by decide +kernel⟩
def b__is_number : DS :=
  (dSeq (dIfS (dOr (dNot (dB (dSM0 mIsascii (dVar 0)))) (dOr (dNot (dB (dSM0 mIsdigit (dVar 0)))) (dB (dOp fGt (dCB fLenS (dCons (dVar 0) dNil)) (dC (.int 5)))))) (dRet (dC (.bl false)))
  dNext)
  (dRet (dOrV (dOp fEq (dVar 0) (dC (.str "0"))) (dNotV (dSM1 mStarts (dVar 0) (dC (.str "0")))))))
def m__is_number : DL := dDef 1 1 b__is_number
theorem u__is_number (a0 : EV) (h : EH) : m__is_number [a0] h = (b__is_number [some a0] h).bind kDef := rfl
abbrev s__step : Stmt := topS 8
theorem sc__step : FnScope ["number", "row", "word", "parts", "part", "numbers"] ["number", "row"] (defScope s__step) := ⟨rfl, rfl, rfl, by decide +kernel, rfl, by decide +kernel, by decide +kernel⟩
def b__step : DS :=
  (dSeq (dAsg (dSM1 mSplit (dVar 1) (dC (.str " "))) (dGStarL 1 (dGCons (dName 2) (dGCons (dName 3) dGNil))))
  (dSeq (dIfS (dB (dOp fNe (dKGet tab_COUNTS (dVar 2)) (dCB fLen (dCons (dVar 3) dNil)))) dNever
  dNext)
  (dSeq (dFor (dItL (dVar 3)) (dName 4)
  (dIfS (dNot (dB (dCall m__is_number (dCons (dVar 4) dNil)))) dNever
  dNext))
  (dSeq (dAsg (dLc (dItL (dVar 3)) (dName 4) dYes (dCB fIntS (dCons (dVar 4) dNil)) [4]) (dName 5))
  (dRet (dTup (dCons (dVar 2) (dStarA (dVar 5) dNil))))))))
def m__step : DL := dDef 2 6 b__step
theorem u__step (a0 : EV) (a1 : EV) (h : EH) : m__step [a0, a1] h = (b__step [some a0, some a1, none, none, none, none] h).bind kDef := rfl
abbrev s_read : Stmt := topS 7
theorem sc_read : FnScope ["text", "number", "row"] ["text"] (defScope s_read) := ⟨rfl, rfl, rfl, by decide +kernel, rfl, by decide +kernel, by decide +kernel⟩
def b_read : DS :=
  (dSeq (dIfS (dB (dOp fEq (dVar 0) (dC (.str "")))) (dRet (dLst dNil))
  dNext)
  (dRet (dLc (dItE (dCons (dSM1 mSplit (dVar 0) (dC (.str "\n"))) dNil)) (dGTup 2 (dGCons (dName 1) (dGCons (dName 2) dGNil))) dYes (dCall m__step (dCons (dVar 1) (dCons (dVar 2) dNil))) [1, 2])))
def m_read : DL := dDef 1 3 b_read
theorem u_read (a0 : EV) (h : EH) : m_read [a0] h = (b_read [some a0, none, none] h).bind kDef := rfl
abbrev s_written : Stmt := topS 6
theorem sc_written : FnScope ["steps", "step", "part"] ["steps"] (defScope s_written) := ⟨rfl, rfl, rfl, by decide +kernel, rfl, by decide +kernel, by decide +kernel⟩
def b_written : DS :=
  (dRet (dSM1 mJoin (dC (.str "\n")) (dLc (dItL (dVar 0)) (dName 1) dYes (dSM1 mJoin (dC (.str " ")) (dLc (dItT (dVar 1)) (dName 2) dYes (dCB fStr (dCons (dVar 2) dNil)) [2])) [1])))
def m_written : DL := dDef 1 3 b_written
theorem u_written (a0 : EV) (h : EH) : m_written [a0] h = (b_written [some a0, none, none] h).bind kDef := rfl
abbrev s__law_same : Stmt := topS 13
theorem sc__law_same : FnScope ["_law_found", "_law_due", "_law_k"] ["_law_found", "_law_due"] (defScope s__law_same) := ⟨rfl, rfl, rfl, by decide +kernel, rfl, by decide +kernel, by decide +kernel⟩
abbrev s_law : Stmt := topS 15
theorem sc_law : FnScope ["_law_script", "_law_state", "_law_turn", "_law_steps", "_law_rows", "_law_step", "_law_row", "_law_part", "_law_text", "_law_handed"] ["_law_script"] (defScope s_law) := ⟨rfl, rfl, rfl, by decide +kernel, rfl, by decide +kernel, by decide +kernel⟩
def b_law : DS :=
  (dSeq (dAsg (dCall LW.m__law_start (dCons (dVar 0) dNil)) (dName 1))
  (dSeq (dFor (dItR1 (dCons (dC (.int 5)) dNil)) (dName 2)
  (dSeq (dPar 3 4 (dCons (dCall m__law_play (dCons (dVar 1) dNil)) (dCons (dLst dNil) dNil)))
  (dSeq (dFor (dItL (dVar 3)) (dName 5)
  (dSeq (dAsg (dOp fIx (dVar 5) (dC (.int 0))) (dName 6))
  (dSeq (dFor (dItT (dSl fSlT (dVar 5) (dPart (some (dC (.int 1)))) (dPart none))) (dName 7)
  (dAsg (dOp fCatS (dOp fCatS (dVar 6) (dC (.str " "))) (dCB fStr (dCons (dVar 7) dNil))) (dName 6)))
  (dDrop (dBM mApp (dVar 4) (dCons (dVar 6) dNil))))))
  (dSeq (dPar 8 9 (dCons (dSM1 mJoin (dC (.str "\n")) (dVar 4)) (dCons (dCB fListOf (dCons (dVar 3) dNil)) dNil)))
  (dSeq (dIfS (dOr (dNot (dB (dCall (LW.m__law_same 6) (dCons (dCall m_written (dCons (dVar 9) dNil)) (dCons (dVar 8) dNil))))) (dOr (dB (dOp fNe (dVar 9) (dVar 3))) (dNot (dB (dCall (LW.m__law_same 6) (dCons (dCall m_read (dCons (dVar 8) dNil)) (dCons (dVar 3) dNil))))))) (dRet (dC (.bl false)))
  dNext)
  (dDrop (dBM mApp (dCall m_read (dCons (dVar 8) dNil)) (dCons (dC (.int 0)) dNil))))))))
  (dRet (dAndV (dOp fEq (dCall m_read (dCons (dC (.str "")) dNil)) (dLst dNil)) (dOp fEq (dCall m_written (dCons (dLst dNil) dNil)) (dC (.str "")))))))
def m_law : DL := dDef 1 10 b_law
theorem u_law (a0 : EV) (h : EH) : m_law [a0] h = (b_law [some a0, none, none, none, none, none, none, none, none, none] h).bind kDef := rfl
structure Top (K : Fg) (mg : Str → Option Value) (w : World) : Prop where
  g_COUNTS : ∃ a, mg "COUNTS" = some (.ref a) ∧ KTab K w a tab_COUNTS
  b_bool : mg "bool" = none
  b_enumerate : mg "enumerate" = none
  b_int : mg "int" = none
  b_isinstance : mg "isinstance" = none
  b_len : mg "len" = none
  b_list : mg "list" = none
  b_range : mg "range" = none
  b_sorted : mg "sorted" = none
  b_str : mg "str" = none
  b_tuple : mg "tuple" = none
  g_MOST_FIGURES : ∃ t, mg "MOST_FIGURES" = some (.int 5 t)
  f__law_start : Tx K mg "_law_start" s__law_start ["_law_script"]
  f__law_drawn : Tx K mg "_law_drawn" s__law_drawn ["_law_state", "_law_many"]
  f__law_play : Tx K mg "_law_play" s__law_play ["_law_state"]
  f__is_number : Tx K mg "_is_number" s__is_number ["part"]
  f__step : Tx K mg "_step" s__step ["number", "row"]
  f_read : Tx K mg "read" s_read ["text"]
  f_written : Tx K mg "written" s_written ["steps"]
  f__law_same : Tx K mg "_law_same" s__law_same ["_law_found", "_law_due"]
  f_law : Tx K mg "law" s_law ["_law_script"]
section
variable {P : Program} {w : World} {K : Fg} {mg : Str → Option Value} {base : Heap} {ct : Nat → Addr × List Str}
theorem d__law_start (T : Top K mg w) : FnD P w K mg base ct 1 "_law_start" LW.m__law_start := by
  refine fnd_mk T.f__law_start sc__law_start fun f cdv A outer s H E hr => ?_
  exact (xss_cons (xs_set 1 sc__law_start.nd xe_int)
    (xss_cons (xs_for PassesOwn.never rfl (xi_list (xe_var 0)) (xg_name 2 sc__law_start.nd)
    (xss_one (xs_set 1 sc__law_start.nd (xe_op o_mod (xe_op o_add (xe_op o_add (xe_op o_mul (xe_var 1) xe_int) (xe_var 2)) xe_int) xe_int))))
    (xss_one (xs_ret (xe_lst (xa_cons (xe_var 0) (xa_cons xe_int (xa_cons (xe_var 1) (xa_cons xe_int xa_nil)))))))))
theorem d__law_drawn (T : Top K mg w) : FnD P w K mg base ct 1 "_law_drawn" LW.m__law_drawn := by
  refine fnd_mk T.f__law_drawn sc__law_drawn fun f cdv A outer s H E hr => ?_
  exact (xss_cons (xs_if (xt_cmp o_gt (xe_ix i_ix (xe_var 0) xe_int) xe_int) (xss_cons (xs_set 2 sc__law_drawn.nd (xe_op o_mod (xe_ix i_ix (xe_var 0) xe_int) (xe_var 1)))
    (xss_cons (xs_asg (xe_op o_div (xe_ix i_ix (xe_var 0) xe_int) (xe_var 1)) (xg_sub (xe_var 0) xe_int set_lst))
    (xss_one (xs_ret (xe_var 2)))))
    xss_nil)
    (xss_cons (xs_asg (xe_op o_add (xe_ix i_ix (xe_var 0) xe_int) xe_int) (xg_sub (xe_var 0) xe_int set_lst))
    (xss_cons (xs_if (xt_cmp o_le (xe_ix i_ix (xe_var 0) xe_int) (xe_callB c_len (by rfl) T.b_len (by decide +kernel) (xa_cons (xe_ix i_ix (xe_var 0) xe_int) xa_nil))) (xss_cons (xs_set 3 sc__law_drawn.nd (xe_ix i_ix (xe_ix i_ix (xe_var 0) xe_int) (xe_op o_sub (xe_ix i_ix (xe_var 0) xe_int) xe_int)))
    (xss_cons (xs_asg (xe_if (xt_cmp o_ge (xe_var 3) (xe_op o_pow xe_int xe_int)) (xe_op o_div (xe_var 3) (xe_var 1)) xe_int) (xg_sub (xe_var 0) xe_int set_lst))
    (xss_one (xs_ret (xe_op o_mod (xe_var 3) (xe_var 1))))))
    xss_nil)
    (xss_cons (xs_asg (xe_op o_mod (xe_op o_add (xe_op o_mul (xe_ix i_ix (xe_var 0) xe_int) xe_int) xe_int) xe_int) (xg_sub (xe_var 0) xe_int set_lst))
    (xss_one (xs_ret (xe_op o_mod (xe_op o_div (xe_ix i_ix (xe_var 0) xe_int) xe_int) (xe_var 1))))))))
theorem d__law_play (T : Top K mg w) : FnD P w K mg base ct 2 "_law_play" m__law_play := by
  have c__law_drawn := (d__law_drawn (P := P) (w := w) (base := base) (ct := ct) T).mono (show 1 ≤ 1 by decide)
  refine fnd_mk T.f__law_play sc__law_play fun f cdv A outer s H E hr => ?_
  exact (xss_cons (xs_set 1 sc__law_play.nd (xe_disp (xp_cons xe_str xe_int (xp_cons xe_str xe_int (xp_cons xe_str xe_int (xp_cons xe_str xe_int (xp_cons xe_str xe_int (xp_cons xe_str xe_int (xp_cons xe_str xe_int (xp_cons xe_str xe_int (xp_cons xe_str xe_int xp_nil)))))))))))
    (xss_cons (xs_expr (xe_updK (xe_var 1) (xa_cons (xe_disp (xp_cons xe_str xe_int (xp_cons xe_str xe_int xp_nil))) xa_nil)))
    (xss_cons (xs_set 2 sc__law_play.nd (xe_lst xa_nil))
    (xss_cons (xs_for PassesOwn.never rfl (xi_rng1 (by rfl) T.b_range (xa_cons (xe_call c__law_drawn hr (by rfl) (xa_cons (xe_var 0) (xa_cons xe_int xa_nil))) xa_nil)) (xg_name 3 sc__law_play.nd)
    (xss_cons (xs_set 4 sc__law_play.nd (xe_ix i_ix (xe_callB (c_sortK rfl) (by rfl) T.b_sorted (by decide +kernel) (xa_cons (xe_var 1) xa_nil)) (xe_call c__law_drawn hr (by rfl) (xa_cons (xe_var 0) (xa_cons xe_int xa_nil)))))
    (xss_cons (xs_setLc1 5 6 rfl sc__law_play.nd (xi_rng1 (by rfl) T.b_range (xa_cons (xe_dget (hu1 hr) (xe_var 1) (xe_var 4)) xa_nil)) (fun _ _ _ _ _ => (xe_call c__law_drawn hr (by rfl) (xa_cons (xe_var 0) (xa_cons (xe_ix i_ix (xe_lst (xa_cons xe_int (xa_cons xe_int (xa_cons xe_int xa_nil)))) (xe_call c__law_drawn hr (by rfl) (xa_cons (xe_var 0) (xa_cons xe_int xa_nil)))) xa_nil)))) (sw_true rfl rfl rfl (by decide +kernel)) (hg := fun _ _ _ _ _ => pg_name sc__law_play.nd rfl (by first | exact Or.inl rfl | exact Or.inr rfl)))
    (xss_one (xs_expr (xe_append (xe_var 2) (xa_cons (xe_callTy c_tupL (by rfl) T.b_tuple (by decide +kernel) (xa_cons (xe_op o_add (xe_lst (xa_cons (xe_var 4) xa_nil)) (xe_var 5)) xa_nil)) xa_nil)))))))
    (xss_one (xs_ret (xe_var 2)))))))
theorem d__is_number (T : Top K mg w) : FnD P w K mg base ct 1 "_is_number" m__is_number := by
  refine fnd_mk T.f__is_number sc__is_number fun f cdv A outer s H E hr => ?_
  exact (xss_cons (xs_if (xt_w (xw_or (xt_not (xt_val (xe_isascii (xe_var 0)))) (xw_or (xt_not (xt_val (xe_isdigit (xe_var 0)))) (xw_or1 (xt_cmp o_gt (xe_callB c_lenS (by rfl) T.b_len (by decide +kernel) (xa_cons (xe_var 0) xa_nil)) (xe_globI (by rfl) T.g_MOST_FIGURES)))))) (xss_one (xs_ret xe_bl))
    xss_nil)
    (xss_one (xs_ret (xe_or (xe_cmp (o_eq (hu64 hr)) (xe_var 0) xe_str) (xe_one (xe_not (xe_starts (xe_var 0) xe_str)))))))
theorem d__step (T : Top K mg w) : FnD P w K mg base ct 2 "_step" m__step := by
  have c__is_number := (d__is_number (P := P) (w := w) (base := base) (ct := ct) T).mono (show 1 ≤ 1 by decide)
  refine fnd_mk T.f__step sc__step fun f cdv A outer s H E hr => ?_
  exact (xss_cons (xs_asg (xe_split (xe_var 1) xe_str) (xg_starL rfl (xgs_cons (xg_name 2 sc__step.nd) (xgs_star (xg_name 3 sc__step.nd)))))
    (xss_cons (xs_if (xt_cmp (o_ne (hu64 hr)) (xe_kget (by rfl) T.g_COUNTS (xe_var 2)) (xe_callB c_len (by rfl) T.b_len (by decide +kernel) (xa_cons (xe_var 3) xa_nil))) (xss_one xs_never)
    xss_nil)
    (xss_cons (xs_for PassesOwn.never rfl (xi_list (xe_var 3)) (xg_name 4 sc__step.nd)
    (xss_one (xs_if (xt_not (xt_val (xe_call c__is_number hr (by rfl) (xa_cons (xe_var 4) xa_nil)))) (xss_one xs_never)
    xss_nil)))
    (xss_cons (xs_setLc1 5 4 rfl sc__step.nd (xi_list (xe_var 3)) (fun _ _ _ _ _ => (xe_callTy c_intS (by rfl) T.b_int (by decide +kernel) (xa_cons (xe_var 4) xa_nil))) (sw_true rfl rfl rfl (by decide +kernel)) (hg := fun _ _ _ _ _ => pg_name sc__step.nd rfl (by first | exact Or.inl rfl | exact Or.inr rfl)))
    (xss_one (xs_ret (xe_tup (xa_cons (xe_var 2) (xa_star (xe_var 5) xa_nil)))))))))
theorem d_read (T : Top K mg w) : FnD P w K mg base ct 3 "read" m_read := by
  have c__step := (d__step (P := P) (w := w) (base := base) (ct := ct) T).mono (show 2 ≤ 2 by decide)
  refine fnd_mk T.f_read sc_read fun f cdv A outer s H E hr => ?_
  exact (xss_cons (xs_if (xt_cmp (o_eq (hu64 hr)) (xe_var 0) xe_str) (xss_one (xs_ret (xe_lst xa_nil)))
    xss_nil)
    (xss_one (xs_ret (xe_lcg [("number", 1), ("row", 2)] rfl sc_read.nd (xi_enum (by rfl) T.b_enumerate (xa_cons (xe_split (xe_var 0) xe_str) xa_nil)) (fun _ _ _ _ _ => (xe_call c__step hr (by rfl) (xa_cons (xe_var 1) (xa_cons (xe_var 2) xa_nil)))) (fun _ _ _ _ _ => (pg_tup rfl (pgs_cons (pg_name sc_read.nd rfl (by first | exact Or.inl rfl | exact Or.inr rfl)) (pgs_cons (pg_name sc_read.nd rfl (by first | exact Or.inl rfl | exact Or.inr rfl)) pgs_nil)))) (snd_gtup (snd_gcons snd_gname (snd_gcons snd_gname snd_gnil))) (only_tup (only_cons (only_name (by decide)) (only_cons (only_name (by decide)) only_nil)))))))
theorem d_written (T : Top K mg w) : FnD P w K mg base ct 1 "written" m_written := by
  refine fnd_mk T.f_written sc_written fun f cdv A outer s H E hr => ?_
  exact (xss_one (xs_ret (xe_join xe_str (xe_lc1 1 rfl sc_written.nd (xi_list (xe_var 0)) (fun _ _ _ _ _ => (xe_join xe_str (xe_lc1 2 rfl sc_written.nd (xi_tup (xe_var 1)) (fun _ _ _ _ _ => (xe_callTy c_str (by rfl) T.b_str (by decide +kernel) (xa_cons (xe_var 2) xa_nil))) (hg := fun _ _ _ _ _ => pg_name sc_written.nd rfl (by first | exact Or.inl rfl | exact Or.inr rfl))))) (hg := fun _ _ _ _ _ => pg_name sc_written.nd rfl (by first | exact Or.inl rfl | exact Or.inr rfl))))))
theorem d__law_same_n (T : Top K mg w) : ∀ n, FnD P w K mg base ct (0 + n) "_law_same" (LW.m__law_same n)
  | 0 => (fnd_zero T.f__law_same).mono (Nat.zero_le _)
  | n + 1 => by
    have hrec := d__law_same_n T n
    refine fnd_mk T.f__law_same sc__law_same fun f cdv A outer s H E hr => ?_
    exact (xss_cons (xs_if (xt_val (xe_isi2 .tuple_ .list_ (by rfl) T.b_isinstance (by rfl) T.b_tuple (by decide +kernel) (by rfl) T.b_list (by decide +kernel) (xe_var 1))) (xss_cons (xs_if (xt_w (xw_or (xt_not (xt_val (xe_isi2 .tuple_ .list_ (by rfl) T.b_isinstance (by rfl) T.b_tuple (by decide +kernel) (by rfl) T.b_list (by decide +kernel) (xe_var 0)))) (xw_or1 (xt_cmp (o_ne (hu64 hr)) (xe_isi .list_ (by rfl) T.b_isinstance (by rfl) T.b_list (by decide +kernel) (xe_var 0)) (xe_isi .list_ (by rfl) T.b_isinstance (by rfl) T.b_list (by decide +kernel) (xe_var 1)))))) (xss_one (xs_ret xe_bl))
    xss_nil)
    (xss_cons (xs_if (xt_cmp (o_ne (hu64 hr)) (xe_callB c_len (by rfl) T.b_len (by decide +kernel) (xa_cons (xe_var 0) xa_nil)) (xe_callB c_len (by rfl) T.b_len (by decide +kernel) (xa_cons (xe_var 1) xa_nil))) (xss_one (xs_ret xe_bl))
    xss_nil)
    (xss_one (xs_ret (xe_cmp (o_eq (hu64 hr)) (xe_lc1i 2 rfl sc__law_same.nd (xi_rng1 (by rfl) T.b_range (xa_cons (xe_callB c_len (by rfl) T.b_len (by decide +kernel) (xa_cons (xe_var 1) xa_nil)) xa_nil)) (fun _ _ _ _ _ => (xt_not (xt_val (xe_call hrec hr (by rfl) (xa_cons (xe_ix i_ix (xe_var 0) (xe_var 2)) (xa_cons (xe_ix i_ix (xe_var 1) (xe_var 2)) xa_nil)))))) (fun _ _ _ _ _ => (xe_var 2)) (hg := fun _ _ _ _ _ => pg_name sc__law_same.nd rfl (by first | exact Or.inl rfl | exact Or.inr rfl))) (xe_lst xa_nil))))))
    xss_nil)
    (xss_cons (xs_if (xt_cmp o_isN (xe_var 1) xe_non) (xss_one (xs_ret (xe_cmp o_isN (xe_var 0) xe_non)))
    xss_nil)
    (xss_cons (xs_if (xt_val (xe_isi .str_ (by rfl) T.b_isinstance (by rfl) T.b_str (by decide +kernel) (xe_var 1))) (xss_one (xs_ret (xe_and (xe_isi .str_ (by rfl) T.b_isinstance (by rfl) T.b_str (by decide +kernel) (xe_var 0)) (xe_one (xe_cmp (o_eq (hu64 hr)) (xe_var 0) (xe_var 1))))))
    xss_nil)
    (xss_cons (xs_if (xt_w (xw_or (xt_val (xe_isi .bool_ (by rfl) T.b_isinstance (by rfl) T.b_bool (by decide +kernel) (xe_var 1))) (xw_or1 (xt_val (xe_isi .bool_ (by rfl) T.b_isinstance (by rfl) T.b_bool (by decide +kernel) (xe_var 0)))))) (xss_one (xs_ret (xe_and (xe_isi .bool_ (by rfl) T.b_isinstance (by rfl) T.b_bool (by decide +kernel) (xe_var 1)) (xe_and (xe_isi .bool_ (by rfl) T.b_isinstance (by rfl) T.b_bool (by decide +kernel) (xe_var 0)) (xe_one (xe_cmp (o_eq (hu64 hr)) (xe_var 0) (xe_var 1)))))))
    xss_nil)
    (xss_one (xs_ret (xe_and (xe_isi .int_ (by rfl) T.b_isinstance (by rfl) T.b_int (by decide +kernel) (xe_var 0)) (xe_one (xe_cmp (o_eq (hu64 hr)) (xe_var 0) (xe_var 1))))))))))
theorem d__law_same (T : Top K mg w) : FnD P w K mg base ct 6 "_law_same" (LW.m__law_same 6) := d__law_same_n T 6
theorem d_law_at {f : Addr} {fd : FuncData} (F : Fun K "law" "law" s_law f fd) (T : Top K mg w) : FnOk P w K mg base CX0 7 f fd ["_law_script"] (spD0 ⟨K, ct⟩ m_law) := by
  have c__law_start := (d__law_start (P := P) (w := w) (base := base) (ct := ct) T).mono (show 1 ≤ 6 by decide)
  have c__law_play := (d__law_play (P := P) (w := w) (base := base) (ct := ct) T).mono (show 2 ≤ 6 by decide)
  have c_read := (d_read (P := P) (w := w) (base := base) (ct := ct) T).mono (show 3 ≤ 6 by decide)
  have c_written := (d_written (P := P) (w := w) (base := base) (ct := ct) T).mono (show 1 ≤ 6 by decide)
  have c__law_same := (d__law_same (P := P) (w := w) (base := base) (ct := ct) T).mono (show 6 ≤ 6 by decide)
  refine fn_d F sc_law fun cdv A outer s H E hr => ?_
  exact (xss_cons (xs_set 1 sc_law.nd (xe_call c__law_start hr (by rfl) (xa_cons (xe_var 0) xa_nil)))
    (xss_cons (xs_for PassesOwn.never rfl (xi_rng1 (by rfl) T.b_range (xa_cons xe_int xa_nil)) (xg_name 2 sc_law.nd)
    (xss_cons (xs_par 3 4 rfl sc_law.nd (xa_cons (xe_call c__law_play hr (by rfl) (xa_cons (xe_var 1) xa_nil)) (xa_cons (xe_lst xa_nil) xa_nil)) rfl)
    (xss_cons (xs_for PassesOwn.never rfl (xi_list (xe_var 3)) (xg_name 5 sc_law.nd)
    (xss_cons (xs_set 6 sc_law.nd (xe_ix i_ix (xe_var 5) xe_int))
    (xss_cons (xs_for PassesOwn.never rfl (xi_tup (xe_sliceT (xe_var 5) (xo_some xe_int) xo_none)) (xg_name 7 sc_law.nd)
    (xss_one (xs_set 6 sc_law.nd (xe_op o_catS (xe_op o_catS (xe_var 6) xe_str) (xe_callTy c_str (by rfl) T.b_str (by decide +kernel) (xa_cons (xe_var 7) xa_nil))))))
    (xss_one (xs_expr (xe_append (xe_var 4) (xa_cons (xe_var 6) xa_nil)))))))
    (xss_cons (xs_par 8 9 rfl sc_law.nd (xa_cons (xe_join xe_str (xe_var 4)) (xa_cons (xe_callTy c_list (by rfl) T.b_list (by decide +kernel) (xa_cons (xe_var 3) xa_nil)) xa_nil)) rfl)
    (xss_cons (xs_if (xt_w (xw_or (xt_not (xt_val (xe_call c__law_same hr (by rfl) (xa_cons (xe_call c_written hr (by rfl) (xa_cons (xe_var 9) xa_nil)) (xa_cons (xe_var 8) xa_nil))))) (xw_or (xt_cmp (o_ne (hu64 hr)) (xe_var 9) (xe_var 3)) (xw_or1 (xt_not (xt_val (xe_call c__law_same hr (by rfl) (xa_cons (xe_call c_read hr (by rfl) (xa_cons (xe_var 8) xa_nil)) (xa_cons (xe_var 3) xa_nil))))))))) (xss_one (xs_ret xe_bl))
    xss_nil)
    (xss_one (xs_expr (xe_append (xe_call c_read hr (by rfl) (xa_cons (xe_var 8) xa_nil)) (xa_cons xe_int xa_nil)))))))))
    (xss_one (xs_ret (xe_and (xe_cmp (o_eq (hu64 hr)) (xe_call c_read hr (by rfl) (xa_cons xe_str xa_nil)) (xe_lst xa_nil)) (xe_one (xe_cmp (o_eq (hu64 hr)) (xe_call c_written hr (by rfl) (xa_cons (xe_lst xa_nil) xa_nil)) xe_str)))))))
end
theorem all_mk {l : PySem.W.OpenLaw} {w : World} {K : Fg} {h : Heap} {mg : Str → Option Value} {fa : Addr} (X : K.In h) (G : h.Ns mainGlobals mg) (hfa : mg "law" = some (.ref fa))
    {od0 an0 : Option Addr} {sl0 : Array (Option Value)} {oc0 kV0 dc0 pm0 cd0 ct0 : Value} {f0 : Addr}
    (a0 : PySem.W.nsIn K mainGlobals "_law_start" = some (some (.ref f0)))
    (l0 : K.lookup f0 = some ⟨oc0, od0, .func (PySem.W.fnOf "_law_start" "_law_start" (defArgs s__law_start) (defBody s__law_start) (defScope s__law_start) .none kV0 dc0 pm0 an0 cd0 ct0), sl0⟩) (c0 : PySem.W.codeIn K cd0 "_law_start" = true) (k0 : PySem.W.keepIn K (.ref f0) = true)
    {od1 an1 : Option Addr} {sl1 : Array (Option Value)} {oc1 kV1 dc1 pm1 cd1 ct1 : Value} {f1 : Addr}
    (a1 : PySem.W.nsIn K mainGlobals "_law_drawn" = some (some (.ref f1)))
    (l1 : K.lookup f1 = some ⟨oc1, od1, .func (PySem.W.fnOf "_law_drawn" "_law_drawn" (defArgs s__law_drawn) (defBody s__law_drawn) (defScope s__law_drawn) .none kV1 dc1 pm1 an1 cd1 ct1), sl1⟩) (c1 : PySem.W.codeIn K cd1 "_law_drawn" = true) (k1 : PySem.W.keepIn K (.ref f1) = true)
    {od2 an2 : Option Addr} {sl2 : Array (Option Value)} {oc2 kV2 dc2 pm2 cd2 ct2 : Value} {f2 : Addr}
    (a2 : PySem.W.nsIn K mainGlobals "_law_play" = some (some (.ref f2)))
    (l2 : K.lookup f2 = some ⟨oc2, od2, .func (PySem.W.fnOf "_law_play" "_law_play" (defArgs s__law_play) (defBody s__law_play) (defScope s__law_play) .none kV2 dc2 pm2 an2 cd2 ct2), sl2⟩) (c2 : PySem.W.codeIn K cd2 "_law_play" = true) (k2 : PySem.W.keepIn K (.ref f2) = true)
    {od3 an3 : Option Addr} {sl3 : Array (Option Value)} {oc3 kV3 dc3 pm3 cd3 ct3 : Value} {f3 : Addr}
    (a3 : PySem.W.nsIn K mainGlobals "_is_number" = some (some (.ref f3)))
    (l3 : K.lookup f3 = some ⟨oc3, od3, .func (PySem.W.fnOf "_is_number" "_is_number" (defArgs s__is_number) (defBody s__is_number) (defScope s__is_number) .none kV3 dc3 pm3 an3 cd3 ct3), sl3⟩) (c3 : PySem.W.codeIn K cd3 "_is_number" = true) (k3 : PySem.W.keepIn K (.ref f3) = true)
    {od4 an4 : Option Addr} {sl4 : Array (Option Value)} {oc4 kV4 dc4 pm4 cd4 ct4 : Value} {f4 : Addr}
    (a4 : PySem.W.nsIn K mainGlobals "_step" = some (some (.ref f4)))
    (l4 : K.lookup f4 = some ⟨oc4, od4, .func (PySem.W.fnOf "_step" "_step" (defArgs s__step) (defBody s__step) (defScope s__step) .none kV4 dc4 pm4 an4 cd4 ct4), sl4⟩) (c4 : PySem.W.codeIn K cd4 "_step" = true) (k4 : PySem.W.keepIn K (.ref f4) = true)
    {od5 an5 : Option Addr} {sl5 : Array (Option Value)} {oc5 kV5 dc5 pm5 cd5 ct5 : Value} {f5 : Addr}
    (a5 : PySem.W.nsIn K mainGlobals "read" = some (some (.ref f5)))
    (l5 : K.lookup f5 = some ⟨oc5, od5, .func (PySem.W.fnOf "read" "read" (defArgs s_read) (defBody s_read) (defScope s_read) .none kV5 dc5 pm5 an5 cd5 ct5), sl5⟩) (c5 : PySem.W.codeIn K cd5 "read" = true) (k5 : PySem.W.keepIn K (.ref f5) = true)
    {od6 an6 : Option Addr} {sl6 : Array (Option Value)} {oc6 kV6 dc6 pm6 cd6 ct6 : Value} {f6 : Addr}
    (a6 : PySem.W.nsIn K mainGlobals "written" = some (some (.ref f6)))
    (l6 : K.lookup f6 = some ⟨oc6, od6, .func (PySem.W.fnOf "written" "written" (defArgs s_written) (defBody s_written) (defScope s_written) .none kV6 dc6 pm6 an6 cd6 ct6), sl6⟩) (c6 : PySem.W.codeIn K cd6 "written" = true) (k6 : PySem.W.keepIn K (.ref f6) = true)
    {od7 an7 : Option Addr} {sl7 : Array (Option Value)} {oc7 kV7 dc7 pm7 cd7 ct7 : Value} {f7 : Addr}
    (a7 : PySem.W.nsIn K mainGlobals "_law_same" = some (some (.ref f7)))
    (l7 : K.lookup f7 = some ⟨oc7, od7, .func (PySem.W.fnOf "_law_same" "_law_same" (defArgs s__law_same) (defBody s__law_same) (defScope s__law_same) .none kV7 dc7 pm7 an7 cd7 ct7), sl7⟩) (c7 : PySem.W.codeIn K cd7 "_law_same" = true) (k7 : PySem.W.keepIn K (.ref f7) = true)
    {od8 an8 : Option Addr} {sl8 : Array (Option Value)} {oc8 kV8 dc8 pm8 cd8 ct8 : Value} {f8 : Addr}
    (a8 : PySem.W.nsIn K mainGlobals "law" = some (some (.ref f8)))
    (l8 : K.lookup f8 = some ⟨oc8, od8, .func (PySem.W.fnOf "law" "law" (defArgs s_law) (defBody s_law) (defScope s_law) .none kV8 dc8 pm8 an8 cd8 ct8), sl8⟩) (c8 : PySem.W.codeIn K cd8 "law" = true) (k8 : PySem.W.keepIn K (.ref f8) = true)
    (z_bool : PySem.W.nsIn K mainGlobals "bool" = some none)
    (z_enumerate : PySem.W.nsIn K mainGlobals "enumerate" = some none)
    (z_int : PySem.W.nsIn K mainGlobals "int" = some none)
    (z_isinstance : PySem.W.nsIn K mainGlobals "isinstance" = some none)
    (z_len : PySem.W.nsIn K mainGlobals "len" = some none)
    (z_list : PySem.W.nsIn K mainGlobals "list" = some none)
    (z_range : PySem.W.nsIn K mainGlobals "range" = some none)
    (z_sorted : PySem.W.nsIn K mainGlobals "sorted" = some none)
    (z_str : PySem.W.nsIn K mainGlobals "str" = some none)
    (z_tuple : PySem.W.nsIn K mainGlobals "tuple" = some none)
    {t_MOST_FIGURES : Tok} (y_MOST_FIGURES : PySem.W.nsIn K mainGlobals "MOST_FIGURES" = some (some (.int 5 t_MOST_FIGURES)))
    {a_COUNTS : Addr} (y_COUNTS : PySem.W.nsIn K mainGlobals "COUNTS" = some (some (.ref a_COUNTS))) (v_COUNTS : KTab K w a_COUNTS tab_COUNTS) :
    ∃ fd : FuncData, (∀ (s : Shared) (v : Value), BindsTo s fd ⟨[v], []⟩ [("_law_script", v)]) ∧ ∀ base : Heap, K.In base → base.Ns mainGlobals mg → FnOk l.prog w K mg base CX0 7 fa fd ["_law_script"] (spD0 ⟨K, fun _ => (0, [])⟩ m_law) := by
  have e := hfa.symm.trans (PySem.W.mg_of X G a8)
  cases e
  have F0 := fun_mk (st := s__law_start) l0 c0 k0
  have b0 := F0.binds (ps := ["_law_script"]) fun _ _ _ _ _ _ us hl => match us, hl with | [_], _ => rfl
  have F1 := fun_mk (st := s__law_drawn) l1 c1 k1
  have b1 := F1.binds (ps := ["_law_state", "_law_many"]) fun _ _ _ _ _ _ us hl => match us, hl with | [_, _], _ => rfl
  have F2 := fun_mk (st := s__law_play) l2 c2 k2
  have b2 := F2.binds (ps := ["_law_state"]) fun _ _ _ _ _ _ us hl => match us, hl with | [_], _ => rfl
  have F3 := fun_mk (st := s__is_number) l3 c3 k3
  have b3 := F3.binds (ps := ["part"]) fun _ _ _ _ _ _ us hl => match us, hl with | [_], _ => rfl
  have F4 := fun_mk (st := s__step) l4 c4 k4
  have b4 := F4.binds (ps := ["number", "row"]) fun _ _ _ _ _ _ us hl => match us, hl with | [_, _], _ => rfl
  have F5 := fun_mk (st := s_read) l5 c5 k5
  have b5 := F5.binds (ps := ["text"]) fun _ _ _ _ _ _ us hl => match us, hl with | [_], _ => rfl
  have F6 := fun_mk (st := s_written) l6 c6 k6
  have b6 := F6.binds (ps := ["steps"]) fun _ _ _ _ _ _ us hl => match us, hl with | [_], _ => rfl
  have F7 := fun_mk (st := s__law_same) l7 c7 k7
  have b7 := F7.binds (ps := ["_law_found", "_law_due"]) fun _ _ _ _ _ _ us hl => match us, hl with | [_, _], _ => rfl
  have F8 := fun_mk (st := s_law) l8 c8 k8
  have b8 := F8.binds (ps := ["_law_script"]) fun _ _ _ _ _ _ us hl => match us, hl with | [_], _ => rfl
  have T : Top K mg w := ⟨⟨_, PySem.W.mg_of X G y_COUNTS, v_COUNTS⟩, PySem.W.mg_none_of X G z_bool, PySem.W.mg_none_of X G z_enumerate, PySem.W.mg_none_of X G z_int, PySem.W.mg_none_of X G z_isinstance, PySem.W.mg_none_of X G z_len, PySem.W.mg_none_of X G z_list, PySem.W.mg_none_of X G z_range, PySem.W.mg_none_of X G z_sorted, PySem.W.mg_none_of X G z_str, PySem.W.mg_none_of X G z_tuple, ⟨_, PySem.W.mg_of X G y_MOST_FIGURES⟩, ⟨_, _, F0, PySem.W.mg_of X G a0, b0⟩, ⟨_, _, F1, PySem.W.mg_of X G a1, b1⟩, ⟨_, _, F2, PySem.W.mg_of X G a2, b2⟩, ⟨_, _, F3, PySem.W.mg_of X G a3, b3⟩, ⟨_, _, F4, PySem.W.mg_of X G a4, b4⟩, ⟨_, _, F5, PySem.W.mg_of X G a5, b5⟩, ⟨_, _, F6, PySem.W.mg_of X G a6, b6⟩, ⟨_, _, F7, PySem.W.mg_of X G a7, b7⟩, ⟨_, _, F8, PySem.W.mg_of X G a8, b8⟩⟩
  refine ⟨PySem.W.fnOf "law" "law" (defArgs s_law) (defBody s_law) (defScope s_law) .none kV8 dc8 pm8 an8 cd8 ct8, fun s v => .of_eq rfl, fun base _ _ => ?_⟩
  exact d_law_at F8 T
end K13
set_option Elab.async false
set_option linter.all false
set_option maxRecDepth 100000
set_option maxHeartbeats 4000000
namespace K13
open PySem L2 EE LW
theorem updK {h : EH} {n m : Nat} {kvs more out : List (EV × EV)} (hn : n ≠ m) (e1 : h[n]? = some (.dic false kvs)) (e2 : h[m]? = some (.dic false more)) (hl : kvs.length + more.length ≤ 100000) (ho : dfoldK kvs more = some out) : mUpdK (.ref n) [.ref m] h = .ok .non (h.set n (.dic false out)) := by
  have d1 : mdicAt h n = some (false, kvs) := by simp only [mdicAt, e1]
  have d2 : mdicAt h m = some (false, more) := by simp only [mdicAt, e2]
  simp [mUpdK, hn, d1, d2, hl, ho]
theorem over {X Y : List Nat} {h h1 h2 : EH} (a : Fr X h h1) (b : Fr Y h1 h2) (hy : ∀ n ∈ Y, n ∈ X ∨ h.length ≤ n) : Fr X h h2 :=
  ⟨Nat.le_trans a.1 b.1, fun n hn hx => (b.2 n (Nat.lt_of_lt_of_le hn a.1) fun q => (hy n q).elim hx fun z => by omega).trans (a.2 n hn hx)⟩
theorem stX {ns : List Int} {h h' : EH} {s : Nat} {X : List Nat} (hs : LW.St ns h s) (f : Fr X h h') (x1 : s ∉ X) (x2 : 0 ∉ X) : LW.St ns h' s := by
  obtain ⟨o, w1, w2, w3, w4⟩ := hs
  exact ⟨o, f.at w1 x1, w2, f.at w3 x2, w4⟩
abbrev Step : Type := Str × List Nat
def stE (st : Step) : EV := .tup (.str st.1 :: st.2.map fun (n : Nat) => EV.int n)
def Good (st : Step) : Prop := tab_COUNTS.lookup st.1 = some (st.2.length : Int) ∧ ∀ n ∈ st.2, n < 100000
def tabE : List (EV × EV) := tab_COUNTS.map fun p => (EV.str p.1, EV.int p.2)
def srt : List Str := ["back", "carry", "day", "days", "lose", "send", "settle", "tie", "twice", "untie", "write"]
theorem srt_eq : ssort (tab_COUNTS.map (·.1)) = srt := by
  refine (ssort_eq ?_ ?_).symm
  · decide +kernel
  · decide +kernel
theorem at_srt (r : Nat) (h : r < 11) : ∃ w c, srt[r]? = some w ∧ tab_COUNTS.lookup w = some ((c : Nat) : Int) ∧ c ≤ 3 ∧ dgetE false tabE (.str w) = some (some (.int ((c : Nat) : Int))) := by
  have : r = 0 ∨ r = 1 ∨ r = 2 ∨ r = 3 ∨ r = 4 ∨ r = 5 ∨ r = 6 ∨ r = 7 ∨ r = 8 ∨ r = 9 ∨ r = 10 := by omega
  rcases this with rfl | rfl | rfl | rfl | rfl | rfl | rfl | rfl | rfl | rfl | rfl
  · exact ⟨"back", 2, rfl, rfl, by decide, rfl⟩
  · exact ⟨"carry", 1, rfl, rfl, by decide, rfl⟩
  · exact ⟨"day", 2, rfl, rfl, by decide, rfl⟩
  · exact ⟨"days", 1, rfl, rfl, by decide, rfl⟩
  · exact ⟨"lose", 1, rfl, rfl, by decide, rfl⟩
  · exact ⟨"send", 1, rfl, rfl, by decide, rfl⟩
  · exact ⟨"settle", 0, rfl, rfl, by decide, rfl⟩
  · exact ⟨"tie", 2, rfl, rfl, by decide, rfl⟩
  · exact ⟨"twice", 1, rfl, rfl, by decide, rfl⟩
  · exact ⟨"untie", 2, rfl, rfl, by decide, rfl⟩
  · exact ⟨"write", 3, rfl, rfl, by decide, rfl⟩
end K13
set_option Elab.async false
set_option linter.all false
set_option maxRecDepth 100000
set_option maxHeartbeats 4000000
namespace K13
open PySem L2 EE LW
theorem at_end {h : EH} {x : EO} : (h ++ [x])[h.length]? = some x := by
  rw [List.getElem?_append_right (Nat.le_refl _), Nat.sub_self]; rfl
theorem f_sortK {h : EH} {n : Nat} (e : h[n]? = some (.dic false tabE)) : fSortK [.ref n] h = .ok (.ref h.length) (h ++ [.lst (srt.map EV.str)]) := by
  have d : dicAt h n = some (false, tabE) := by simp only [dicAt, e]
  have k : strsE (tabE.map (·.1)) = some (tab_COUNTS.map (·.1)) := by rfl
  simp only [fSortK, d, k]
  rw [if_pos (by decide), srt_eq]
def tabA : List (EV × EV) := [(.str "write", .int 3), (.str "back", .int 2), (.str "day", .int 2), (.str "days", .int 1), (.str "tie", .int 2), (.str "untie", .int 2), (.str "send", .int 1), (.str "carry", .int 1), (.str "lose", .int 1)]
def tabB : List (EV × EV) := [(.str "twice", .int 1), (.str "settle", .int 0)]
theorem play {ns : List Int} {h : EH} {s : Nat} {Q : EV → EH → Prop} (hs : St ns h s) (q : ∀ l (sts : List Step) h', (∀ st ∈ sts, Good st) → sts.length ≤ 20 → mutAt h' l = some (sts.map stE) → h.length ≤ l → St ns h' s → Fr [s] h h' → Q (.ref l) h') : Tri (m__law_play [.ref s] h) Q := by
  have hsl := hs.lt
  rw [u__law_play]
  have a1 : (h ++ [EO.dic false tabA])[h.length]? = some (.dic false tabA) := at_end
  have f1 : Fr [] h (h ++ [EO.dic false tabA]) := Fr.app _ _ _
  have l1 : (h ++ [EO.dic false tabA]).length = h.length + 1 := by simp
  generalize eg1 : h ++ [EO.dic false tabA] = h1 at *
  have E1 : dAsg (dDisp [((dC (.str "write")), (dC (.int 3))), ((dC (.str "back")), (dC (.int 2))), ((dC (.str "day")), (dC (.int 2))), ((dC (.str "days")), (dC (.int 1))), ((dC (.str "tie")), (dC (.int 2))), ((dC (.str "untie")), (dC (.int 2))), ((dC (.str "send")), (dC (.int 1))), ((dC (.str "carry")), (dC (.int 1))), ((dC (.str "lose")), (dC (.int 1)))]) (dName 1) [some (.ref s), none, none, none, none, none, none] h = .ok (.nx [some (.ref s), some (.ref h.length), none, none, none, none, none]) h1 := by
    have dk : dfoldK [] [(.str "write", .int 3), (.str "back", .int 2), (.str "day", .int 2), (.str "days", .int 1), (.str "tie", .int 2), (.str "untie", .int 2), (.str "send", .int 1), (.str "carry", .int 1), (.str "lose", .int 1)] = some tabA := rfl
    simp [-List.append_assoc, -List.length_append, dDisp, dPairs, dk, eg1]
  have a2 : (h1 ++ [EO.dic false tabB])[h1.length]? = some (.dic false tabB) := at_end
  have f2 : Fr [] h1 (h1 ++ [EO.dic false tabB]) := Fr.app _ _ _
  have l2 : (h1 ++ [EO.dic false tabB]).length = h1.length + 1 := by simp
  generalize eg2 : h1 ++ [EO.dic false tabB] = h2 at *
  have up := updK (n := h.length) (m := h1.length) (by omega) (f2.at a1 (by simp)) a2 (by decide) (out := tabE) rfl
  have kb : ∀ a es, kBMD mUpdK a es (.ref h.length) h1 = _ := fun a es => kBMD_ref a1
  have a3 : (h2.set h.length (.dic false tabE))[h.length]? = some (.dic false tabE) := List.getElem?_set_self (by omega)
  have f3 : Fr [h.length] h2 (h2.set h.length (.dic false tabE)) := (Fr.refl _ h2).set (.inl (by simp))
  have l3 : (h2.set h.length (.dic false tabE)).length = h2.length := List.length_set ..
  generalize eg3 : h2.set h.length (.dic false tabE) = h3 at *
  have E2 : dDrop (dBMD mUpdK (dVar 1) (dCons (dDisp [((dC (.str "twice")), (dC (.int 1))), ((dC (.str "settle")), (dC (.int 0)))]) dNil)) [some (.ref s), some (.ref h.length), none, none, none, none, none] h1 = .ok (.nx [some (.ref s), some (.ref h.length), none, none, none, none, none]) h3 := by
    have dk : dfoldK [] [(.str "twice", .int 1), (.str "settle", .int 0)] = some tabB := rfl
    simp [-List.append_assoc, -List.length_append, kb, dDisp, dPairs, dk, eg2, up, eg3]
  have m4 : mutAt (h3 ++ [EO.lst []]) h3.length = some [] := mutAt_new
  have f4 : Fr [] h3 (h3 ++ [EO.lst []]) := Fr.app _ _ _
  have l4 : (h3 ++ [EO.lst []]).length = h3.length + 1 := by simp
  have F4 : Fr [] h (h3 ++ [EO.lst []]) := by
    refine Fr.trans ?_ f4
    rw [← eg3]
    exact (f1.trans f2).set (.inr (Nat.le_refl _))
  have hs4 := hs.fr F4
  have a4 := f4.at a3 (by simp)
  generalize eg4 : h3 ++ [EO.lst []] = h4 at *
  unfold b__law_play
  rw [ap_seq, E1]
  simp only [bind_ok, kSeq_nx]
  rw [ap_seq, E2]
  simp only [bind_ok, kSeq_nx]
  simp [-List.append_assoc, -List.length_append, tri_bind, eg4]
  refine drawnF hs4 (by decide) (by decide) fun r1 h5 r1a r1b hs5 f5 l5 => ?_
  have m5 := f5.mut m4 (by simp; omega)
  have a5 := f5.at a4 (by simp; omega)
  simp only [ap_kItR1 h5 r1 (by omega) (by omega), tri_ok]
  refine tri_for (xs := rng 0 r1.toNat) (fun i es h' => ∃ sts : List Step, ∃ a b c d, es = [some (.ref s), some (.ref h.length), some (.ref h3.length), a, b, c, d] ∧ (∀ st ∈ sts, Good st) ∧ sts.length = i ∧ mutAt h' h3.length = some (sts.map stE) ∧ h'[h.length]? = some (.dic false tabE) ∧ St ns h' s ∧ Fr [s, h3.length] h4 h')
    ⟨[], none, none, none, none, rfl, fun _ hp => by simp at hp, rfl, m5, a5, hs5, f5.weak (by simp)⟩ (fun _ _ _ _ => rfl) ?_ ?_
  · rintro i x es hh K hx ⟨sts, va, vb, vc, vd, rfl, hg, hl, hm, hd, hst, hf⟩ hK _ _ _
    obtain ⟨hi, rfl⟩ := rng_at hx
    have lh := hf.1
    have m1 : lstAt (hh ++ [EO.lst (srt.map EV.str)]) hh.length = some (srt.map EV.str) := lstAt_new
    have g1 : Fr [] hh (hh ++ [EO.lst (srt.map EV.str)]) := Fr.app _ _ _
    have l1' : (hh ++ [EO.lst (srt.map EV.str)]).length = hh.length + 1 := by simp
    have st1 := hst.fr g1
    have sk := f_sortK hd
    generalize eh1 : hh ++ [EO.lst (srt.map EV.str)] = k1 at *
    simp [-List.append_assoc, -List.length_append, tri_bind, sk]
    refine drawnF st1 (by decide) (by decide) fun r2 k2 r2a r2b st2 g2 l2' => ?_
    have hsh := hst.lt
    obtain ⟨w, c, w1, w2, w3, w4⟩ := at_srt r2.toNat (by omega)
    have ix : fIx (.ref hh.length) (.int r2) k2 = .ok (.str w) k2 := f_ixL r2 (g2.lst m1 (by simp; omega)) r2.toNat (by omega) (by rw [List.getElem?_map, w1]; rfl)
    have hd2 := g2.at (g1.at hd (by simp)) (by simp; omega)
    have dg : fDGet (.ref h.length) (.str w) k2 = .ok (.int c) k2 := f_dget (.inl hd2) w4
    simp only [ix, tri_ok, dg, ap_kItR1 k2 (c : Int) (by omega) (by omega), List.set_cons_zero, List.set_cons_succ, List.getElem?_cons_zero, List.getElem?_cons_succ, gV_some, bind_ok, ap_kCons, ap_kCons2, ap_nil]
    have hm2 := g2.mut (g1.mut hm (by simp)) (by simp; omega)
    refine tri_lcJ (xs := rng 0 c) (fun j acc k' => ∃ ms : List Nat, acc = ms.map (fun (n : Nat) => EV.int n) ∧ ms.length = j ∧ j ≤ c ∧ (∀ n ∈ ms, n < 100000) ∧ St ns k' s ∧ Fr [s] k2 k') ⟨[], rfl, rfl, Nat.zero_le _, fun _ hp => by simp at hp, st2, Fr.refl _ _⟩ (fun _ _ _ _ => rfl) ?_ ?_ ?_
    · rintro j acc k' ⟨ms, rfl, rfl, hj, _⟩
      rw [List.length_map]; omega
    · rintro j y acc k' K2 hy ⟨ms, rfl, hj, hjc, hms, st', ff⟩ _ hyes
      obtain ⟨hj2, rfl⟩ := rng_at hy
      simp only [ap_yes, tri_ok]
      refine hyes _ fun Ke hKe => ?_
      have e5 : lstAt (k' ++ [EO.lst [EV.int 3, EV.int 10, EV.int 100000]]) k'.length = some [EV.int 3, EV.int 10, EV.int 100000] := lstAt_new
      have g5 : Fr [] k' (k' ++ [EO.lst [EV.int 3, EV.int 10, EV.int 100000]]) := Fr.app _ _ _
      have st5 := st'.fr g5
      have l5' : (k' ++ [EO.lst [EV.int 3, EV.int 10, EV.int 100000]]).length = k'.length + 1 := by simp
      generalize eh5 : k' ++ [EO.lst [EV.int 3, EV.int 10, EV.int 100000]] = k5 at *
      simp [-List.append_assoc, -List.length_append, tri_bind, wip, eh5]
      refine drawnF st5 (by decide) (by decide) fun r6 k6 r6a r6b st6 g6 l6 => ?_
      have := st'.lt
      have e6 := g6.lst e5 (by simp; omega)
      have : ∃ m : Int, fIx (.ref k'.length) (.int r6) k6 = .ok (.int m) k6 ∧ 0 < m ∧ m ≤ 100000 := by
        have : r6 = 0 ∨ r6 = 1 ∨ r6 = 2 := by omega
        rcases this with rfl | rfl | rfl
        · exact ⟨3, f_ixL _ e6 0 rfl rfl, by omega, by omega⟩
        · exact ⟨10, f_ixL _ e6 1 rfl rfl, by omega, by omega⟩
        · exact ⟨100000, f_ixL _ e6 2 rfl rfl, by omega, by omega⟩
      obtain ⟨m, em, hm0, hm1⟩ := this
      simp only [em, tri_ok, bind_ok]
      refine drawnF st6 hm0 (by omega) fun r7 k7 r7a r7b st7 g7 l7 => ?_
      refine hKe _ _ ⟨ms ++ [r7.toNat], ?_, by simp [hj], by omega, ?_, st7, ?_⟩
      · rw [List.map_append, List.map_singleton, Int.toNat_of_nonneg r7a]
      · intro n hn
        rcases List.mem_append.mp hn with z | z
        · exact hms n z
        · rw [List.mem_singleton.mp z]; omega
      · exact (ff.trans (g5.weak (by simp))).trans (g6.trans g7)
    · rintro acc k' ⟨ms, rfl, hmc, _, hms, st', ff⟩
      rw [rng_len] at hmc
      have hm3 := ff.mut hm2 (by simp; omega)
      have hd3 := ff.at hd2 (by simp; omega)
      have lk' := ff.1
      have n1 : mutAt (k' ++ [EO.lst (ms.map fun (n : Nat) => EV.int n)]) k'.length = some (ms.map fun (n : Nat) => EV.int n) := mutAt_new
      have x1 : Fr [] k' (k' ++ [EO.lst (ms.map fun (n : Nat) => EV.int n)]) := Fr.app _ _ _
      have y1 : (k' ++ [EO.lst (ms.map fun (n : Nat) => EV.int n)]).length = k'.length + 1 := by simp
      generalize eq1 : k' ++ [EO.lst (ms.map fun (n : Nat) => EV.int n)] = q1 at *
      have n2 : mutAt (q1 ++ [EO.lst [EV.str w]]) q1.length = some [EV.str w] := mutAt_new
      have x2 : Fr [] q1 (q1 ++ [EO.lst [EV.str w]]) := Fr.app _ _ _
      have y2 : (q1 ++ [EO.lst [EV.str w]]).length = q1.length + 1 := by simp
      generalize eq2 : q1 ++ [EO.lst [EV.str w]] = q2 at *
      have ct := f_cat n2 (x2.mut n1 (by simp)) (by simp; omega)
      have n3 : lstAt (q2 ++ [EO.lst ([EV.str w] ++ ms.map fun (n : Nat) => EV.int n)]) q2.length = some ([EV.str w] ++ ms.map fun (n : Nat) => EV.int n) := lstAt_new
      have x3 : Fr [] q2 (q2 ++ [EO.lst ([EV.str w] ++ ms.map fun (n : Nat) => EV.int n)]) := Fr.app _ _ _
      have y3 : (q2 ++ [EO.lst ([EV.str w] ++ ms.map fun (n : Nat) => EV.int n)]).length = q2.length + 1 := by simp
      generalize eq3 : q2 ++ [EO.lst ([EV.str w] ++ ms.map fun (n : Nat) => EV.int n)] = q3 at *
      have tp := f_tupL n3
      have X3 := (x1.trans x2).trans x3
      have hm4 := X3.mut hm3 (by simp)
      have kb2 : ∀ a es, kBM mApp a es (.ref h3.length) q1 = _ := fun a es => kBM_ref es mApp a (lst_mut ((x1.mut hm3 (by simp))))
      have ma := m_append (x := stE (w, ms)) hm4 (by rw [List.length_map]; omega)
      simp [-List.append_assoc, -List.length_append, tri_bind, eq2, kb2, ct, tp]
      rw [show (EV.tup (EV.str w :: ms.map fun (n : Nat) => EV.int n)) = stE (w, ms) from rfl, ma]
      simp only [tri_ok]
      refine hK _ _ ⟨sts ++ [(w, ms)], _, _, _, _, rfl, ?_, by simp [hl], ?_, ?_, ?_, ?_⟩
      · intro st hst'
        rcases List.mem_append.mp hst' with z | z
        · exact hg st z
        · rw [List.mem_singleton.mp z]
          exact ⟨by rw [w2, hmc], hms⟩
      · rw [List.map_append]
        exact mutAt_set (by have := mutAt_lt hm4; omega)
      · rw [List.getElem?_set_ne (by omega)]
        exact X3.at hd3 (by simp)
      · exact stX (st'.fr X3) (X := [h3.length]) ((Fr.refl _ _).set (.inl (by simp))) (by simp; omega) (by simp; omega)
      · exact ((((hf.trans (g1.weak (by simp))).trans (g2.weak (by simp))).trans (ff.weak (by simp))).trans (X3.weak (by simp))).set (.inl (by simp))
  · rintro es hh ⟨sts, va, vb, vc, vd, rfl, hg, hl, hm, hd, hst, hf⟩
    simp
    refine q _ sts _ hg (by rw [hl, rng_len]; omega) hm (by omega) hst ?_
    exact over (F4.weak (by simp)) hf (by simp; omega)
end K13
set_option Elab.async false
set_option linter.all false
set_option maxRecDepth 100000
set_option maxHeartbeats 4000000
namespace K13
open PySem L2 EE LW TL
def numS (n : Nat) : Str := Str.ofString (toString ((n : Nat) : Int))
theorem tl_numS (n : Nat) : tl (numS n) = numL n := tl_num n
def sp : Str := " "
def nl : Str := "\n"
theorem tl_sp : tl sp = [32] := by decide +kernel
theorem tl_nl : tl nl = [10] := by decide +kernel
def rowJ (st : Step) : Str := Txt.join sp (st.1 :: st.2.map numS)
def rowF (w : Str) (ns : List Nat) : Str := ns.foldl (fun r n => r ++ sp ++ numS n) w
theorem joinL_app (S a b : List Nat) (r : List (List Nat)) : joinL S ((a ++ b) :: r) = a ++ joinL S (b :: r) := by
  cases r with
  | nil => rfl
  | cons x r => simp [joinL]
theorem tl_rowJ (st : Step) : tl (rowJ st) = joinL [32] (tl st.1 :: st.2.map numL) := by
  unfold rowJ
  rw [join_eq, tl_join, tl_sp, List.map_cons, List.map_map]
  congr 2
  exact List.map_congr_left fun n _ => tl_numS n
theorem tl_rowF : ∀ (ns : List Nat) (w : Str), tl (rowF w ns) = joinL [32] (tl w :: ns.map numL)
  | [], w => rfl
  | n :: ns, w => by
    show tl (rowF (w ++ sp ++ numS n) ns) = _
    rw [tl_rowF ns, tl_append, tl_append, tl_numS, tl_sp, joinL_app]
    simp [joinL]
theorem row_eq (st : Step) : rowF st.1 st.2 = rowJ st := ext_tl (by rw [tl_rowF, tl_rowJ])
theorem joinL_len (S : List Nat) : ∀ ps : List (List Nat), (joinL S ps).length ≤ (ps.map (·.length)).sum + ps.length * S.length
  | [] => by simp [joinL]
  | [p] => by simp [joinL]
  | p :: q :: r => by
    have := joinL_len S (q :: r)
    simp only [joinL, List.length_append, List.map_cons, List.sum_cons, List.length_cons, Nat.add_mul, Nat.one_mul] at this ⊢
    omega
theorem joinL_mem {S : List Nat} {c : Nat} : ∀ {ps : List (List Nat)}, c ∈ joinL S ps → c ∈ S ∨ ∃ p ∈ ps, c ∈ p
  | [], h => by simp [joinL] at h
  | [p], h => .inr ⟨p, by simp, h⟩
  | p :: q :: r, h => by
    simp only [joinL, List.mem_append] at h
    rcases h with h | h | h
    · exact .inr ⟨p, by simp, h⟩
    · exact .inl h
    · rcases joinL_mem h with z | ⟨x, hx, hc⟩
      · exact .inl z
      · exact .inr ⟨x, List.mem_cons_of_mem _ hx, hc⟩
theorem lookup_mem {α β : Type} [BEq α] [LawfulBEq α] : ∀ {l : List (α × β)} {x : α} {y : β}, l.lookup x = some y → (x, y) ∈ l
  | [], _, _, h => by cases h
  | (a, b) :: l, x, y, h => by
    rw [List.lookup_cons] at h
    cases hx : x == a with
    | true =>
      rw [hx] at h
      simp only [Option.some.injEq] at h
      rw [eq_of_beq hx, h]
      exact List.mem_cons_self
    | false =>
      rw [hx] at h
      exact List.mem_cons_of_mem _ (lookup_mem h)
theorem word_ok : ∀ p ∈ tab_COUNTS, tl p.1 ≠ [] ∧ (tl p.1).length ≤ 6 ∧ 32 ∉ tl p.1 ∧ 10 ∉ tl p.1 ∧ 0 ≤ p.2 ∧ p.2 ≤ 3 := by decide +kernel
theorem Good.word {st : Step} (g : Good st) : tl st.1 ≠ [] ∧ (tl st.1).length ≤ 6 ∧ 32 ∉ tl st.1 ∧ 10 ∉ tl st.1 ∧ st.2.length ≤ 3 := by
  obtain ⟨a, b, c, d, e, f⟩ := word_ok _ (lookup_mem g.1)
  exact ⟨a, b, c, d, by simp only at f; omega⟩
theorem num_len {n : Nat} (h : n < 100000) : (numL n).length ≤ 5 := numL_len (by decide) h
theorem sum_le {c : Nat} : ∀ {l : List Nat}, (∀ x ∈ l, x ≤ c) → l.sum ≤ l.length * c
  | [], _ => by simp
  | x :: l, h => by
    have := sum_le (l := l) fun y hy => h y (List.mem_cons_of_mem _ hy)
    have := h x List.mem_cons_self
    simp only [List.sum_cons, List.length_cons, Nat.add_mul, Nat.one_mul]
    omega
theorem Good.len {st : Step} (g : Good st) : (tl (rowJ st)).length ≤ 30 := by
  obtain ⟨_, b, _, _, e⟩ := g.word
  rw [tl_rowJ]
  have h1 := joinL_len [32] (tl st.1 :: st.2.map numL)
  have h2 := sum_le (c := 5) (l := (st.2.map numL).map (·.length)) (by
    intro x hx
    obtain ⟨y, hy, rfl⟩ := List.mem_map.mp hx
    obtain ⟨n, hn, rfl⟩ := List.mem_map.mp hy
    exact num_len (g.2 n hn))
  simp only [List.map_cons, List.sum_cons, List.length_cons, List.length_map, List.length_nil] at h1 h2 ⊢
  omega
theorem Good.free {st : Step} (g : Good st) : 10 ∉ tl (rowJ st) := by
  obtain ⟨_, _, _, d, _⟩ := g.word
  rw [tl_rowJ]
  intro h
  rcases joinL_mem h with h | ⟨p, hp, h⟩
  · simp at h
  · rcases List.mem_cons.mp hp with e | hp
    · rw [e] at h; exact d h
    · obtain ⟨n, _, rfl⟩ := List.mem_map.mp hp
      exact numL_free (.inl (by decide)) h
theorem Good.split {st : Step} (g : Good st) : Txt.split (rowJ st) sp = st.1 :: st.2.map numS := by
  obtain ⟨_, _, c, _, _⟩ := g.word
  refine split_join (s := 32) (S := []) tl_sp (by decide +kernel) (by simp) fun p hp => ?_
  rcases List.mem_cons.mp hp with e | hp
  · rw [e]; exact c
  · obtain ⟨n, _, rfl⟩ := List.mem_map.mp hp
    rw [tl_numS]
    exact numL_free (.inl (by decide))
def textJ (sts : List Step) : Str := Txt.join nl (sts.map rowJ)
theorem tl_textJ (sts : List Step) : tl (textJ sts) = joinL [10] (sts.map fun st => tl (rowJ st)) := by
  unfold textJ
  rw [join_eq, tl_join, tl_nl, List.map_map]
  rfl
theorem text_len {sts : List Step} (hg : ∀ st ∈ sts, Good st) (hl : sts.length ≤ 20) : (tl (textJ sts)).length ≤ 620 := by
  rw [tl_textJ]
  have h1 := joinL_len [10] (sts.map fun st => tl (rowJ st))
  have h2 := sum_le (c := 30) (l := (sts.map fun st => tl (rowJ st)).map (·.length)) (by
    intro x hx
    obtain ⟨y, hy, rfl⟩ := List.mem_map.mp hx
    obtain ⟨st, hs, rfl⟩ := List.mem_map.mp hy
    exact (hg st hs).len)
  simp only [List.length_map, List.length_cons, List.length_nil] at h1 h2 ⊢
  omega
theorem text_split {sts : List Step} (hg : ∀ st ∈ sts, Good st) (hn : sts ≠ []) : Txt.split (textJ sts) nl = sts.map rowJ := by
  refine split_join (s := 10) (S := []) tl_nl (by decide +kernel) (by simpa using hn) fun p hp => ?_
  obtain ⟨st, hs, rfl⟩ := List.mem_map.mp hp
  exact (hg st hs).free
theorem text_ne {sts : List Step} (hg : ∀ st ∈ sts, Good st) (hn : sts ≠ []) : textJ sts ≠ ("" : Str) := by
  intro e
  have h := congrArg tl e
  rw [tl_textJ, show tl ("" : Str) = [] by decide +kernel] at h
  cases sts with
  | nil => exact hn rfl
  | cons st r =>
    have hw := (hg st List.mem_cons_self).word.1
    have h1 : tl (rowJ st) ≠ [] := by
      rw [tl_rowJ]
      intro z
      cases q : st.2.map numL with
      | nil => rw [q] at z; exact hw z
      | cons a b => rw [q] at z; simp [joinL] at z
    cases r with
    | nil => exact h1 h
    | cons a b => simp [joinL] at h
theorem len_of_tl (x : Str) : x.length = (tl x).length := len_tl x
theorem num_ascii (n : Nat) : Txt.isascii (numS n) = true := by
  unfold Txt.isascii
  rw [← Array.all_toList]
  rw [List.all_eq_true]
  intro c hc
  have := numL_digits n c (by rw [← tl_numS]; exact hc)
  simp; omega
theorem num_digit (n : Nat) : Txt.isdigit (numS n) = true := by
  have h0 : 0 < (numS n).length := by
    rw [len_tl, tl_numS]
    exact List.length_pos_iff.mpr (numL_ne n)
  unfold Txt.isdigit
  simp only [Bool.and_eq_true, decide_eq_true_eq]
  refine ⟨h0, ?_⟩
  rw [← Array.all_toList, List.all_eq_true]
  intro c hc
  have h := numL_digits n c (by rw [← tl_numS]; exact hc)
  have : c = 48 ∨ c = 49 ∨ c = 50 ∨ c = 51 ∨ c = 52 ∨ c = 53 ∨ c = 54 ∨ c = 55 ∨ c = 56 ∨ c = 57 := by omega
  rcases this with rfl | rfl | rfl | rfl | rfl | rfl | rfl | rfl | rfl | rfl <;> decide +kernel
theorem num_head : ∀ n : Nat, 0 < n → (numL n).head? ≠ some 48 := by
  intro n
  induction n using Nat.strongRecOn with
  | _ n ih =>
    intro h0
    by_cases h : n < 10
    · rw [numL_lt h]
      simp; omega
    · rw [numL_step (by omega)]
      have := ih (n / 10) (by omega) (by omega)
      cases q : numL (n / 10) with
      | nil => exact absurd q (numL_ne _)
      | cons a b => rw [q] at this; simpa using this
theorem starts_pre {x y : Str} (hy : tl y ≠ []) : Txt.startswith x y = pre (tl y) (tl x) := by
  have h := at_iff (x := x) hy 0
  rw [List.drop_zero] at h
  rw [Bool.eq_iff_iff, ← h]
  unfold Txt.startswith
  rw [Bool.and_eq_true, decide_eq_true_eq]
  exact Iff.rfl
theorem num_zero (n : Nat) : numS n = ("0" : Str) ∨ Txt.startswith (numS n) "0" = false := by
  by_cases h : n = 0
  · left; subst h; decide +kernel
  · right
    have hh := num_head n (by omega)
    have e0 : tl ("0" : Str) = [48] := by decide +kernel
    rw [starts_pre (by rw [e0]; simp), e0, tl_numS]
    cases q : numL n with
    | nil => exact absurd q (numL_ne n)
    | cons a b =>
      rw [q] at hh
      refine pre_of_head _ _ fun e => hh ?_
      rw [e]; rfl
theorem num_int {n : Nat} (h : n < 100000) : PySem.intText? (numS n) = some (n : Int) := int_num (Nat.le_trans (num_len h) (by decide))
end K13
set_option Elab.async false
set_option linter.all false
set_option maxRecDepth 100000
set_option maxHeartbeats 4000000
namespace K13
open PySem L2 EE LW TL
theorem num_slen {n : Nat} (h : n < 100000) : (numS n).length ≤ 5 := by
  rw [len_tl, tl_numS]; exact num_len h
theorem is_number (h : EH) {n : Nat} (hn : n < 100000) : m__is_number [.str (numS n)] h = .ok (.bl true) h := by
  have hl := num_slen hn
  rw [u__is_number]
  have e5 : decide ((5 : Int) < ((numS n).length : Int)) = false := decide_eq_false (by omega)
  have z : numS n = ("0" : Str) ∨ Txt.startswith (numS n) "0" = false := num_zero n
  simp [b__is_number, num_ascii, num_digit, f_lenS _ _ (show (numS n).length ≤ 100000 by omega), e5]
  rcases z with z | z
  · simp [z]
  · by_cases q : numS n = ("0" : Str)
    · simp [q]
    · simp [q, z]
theorem step {h : EH} {i : Nat} {st : Step} {K : EV → EH → Prop} (g : Good st) (q : ∀ h', Fr [] h h' → K (stE st) h') : Tri (m__step [.int i, .str (rowJ st)] h) K := by
  have w5 := g.word.2.2.2.2
  have hl : (rowJ st).length ≤ 99998 := by
    have := g.len
    rw [len_tl]; omega
  rw [u__step]
  have sl := m_splitS h (rowJ st) sp (by decide +kernel) hl
  rw [g.split] at sl
  have m1 : lstAt (h ++ [EO.lst ((st.1 :: st.2.map numS).map EV.str)]) h.length = some ((st.1 :: st.2.map numS).map EV.str) := lstAt_new
  have f1 : Fr [] h (h ++ [EO.lst ((st.1 :: st.2.map numS).map EV.str)]) := Fr.app _ _ _
  generalize eg1 : h ++ [EO.lst ((st.1 :: st.2.map numS).map EV.str)] = h1 at *
  have gs := fun es r => ap_gstarL es r m1 (show 1 ≤ _ by simp)
  have m2 : lstAt (h1 ++ [EO.lst (st.2.map fun n => EV.str (numS n))]) h1.length = some (st.2.map fun n => EV.str (numS n)) := lstAt_new
  have f2 : Fr [] h1 (h1 ++ [EO.lst (st.2.map fun n => EV.str (numS n))]) := Fr.app _ _ _
  have ed : List.drop 1 ((st.1 :: st.2.map numS).map EV.str) = st.2.map fun n => EV.str (numS n) := by simp
  have et : List.take 1 ((st.1 :: st.2.map numS).map EV.str) = [EV.str st.1] := by simp
  rw [ed, et] at gs
  generalize eg2 : h1 ++ [EO.lst (st.2.map fun n => EV.str (numS n))] = h2 at *
  have kg := kKGet_some h2 g.1
  have ln := f_len m2
  rw [List.length_map] at ln
  unfold b__step
  simp [-List.append_assoc, -List.length_append, tri_bind, show (Str.ofString " ") = sp from rfl, sl, gs, kg, ln, kItL_ref m2]
  refine tri_for (xs := st.2.map fun n => EV.str (numS n)) (fun j es h' => h' = h2 ∧ ∃ a, es = [some (.int i), some (.str (rowJ st)), some (.str st.1), some (.ref h1.length), a, none]) ⟨rfl, none, rfl⟩ (fun _ _ _ ⟨e, _⟩ => by subst e; exact m2) ?_ ?_
  · rintro j x es h' K' hx ⟨rfl, a, rfl⟩ hK _ _ _
    rw [List.getElem?_map] at hx
    obtain ⟨n, hn, rfl⟩ := Option.map_eq_some_iff.mp hx
    simp [is_number _ (g.2 n (List.mem_of_getElem? hn))]
    exact hK _ _ ⟨rfl, _, rfl⟩
  · rintro es h' ⟨rfl, a, rfl⟩
    simp [tri_bind, kItL_ref m2]
    refine tri_lcP (xs := st.2.map fun n => EV.str (numS n)) (fun _ => true) (fun j => .int ((st.2.getD j 0 : Nat) : Int)) (by rw [List.length_map]; omega) (fun h' f => f.lst m2 (by simp)) ?_ ?_ ?_
    · rintro j x h3 K' hx f hK
      simp
      exact hK _ (Fr.refl _ _)
    · rintro j x h3 K' hx f _ hK
      rw [List.getElem?_map] at hx
      obtain ⟨n, hn, rfl⟩ := Option.map_eq_some_iff.mp hx
      have hn' := g.2 n (List.mem_of_getElem? hn)
      have e : st.2.getD j 0 = n := by rw [List.getD_eq_getElem?_getD, hn]; rfl
      rw [e] at hK
      simp [wip, f_intS _ (num_int hn') (by have := num_slen hn'; omega)]
      exact hK _ (Fr.refl _ _)
    · intro h3 f3
      rw [gvn_true, List.length_map]
      have ev : ((List.range st.2.length).map fun j => EV.int ((st.2.getD j 0 : Nat) : Int)) = st.2.map fun (n : Nat) => EV.int n := by
        apply List.ext_getElem?
        intro j
        rw [List.getElem?_map, List.getElem?_map]
        by_cases hj : j < st.2.length
        · rw [List.getElem?_range hj, List.getElem?_eq_getElem hj, Option.map_some, Option.map_some, List.getD_eq_getElem?_getD, List.getElem?_eq_getElem hj]
          rfl
        · rw [List.getElem?_eq_none (by simpa using hj), List.getElem?_eq_none (by omega)]
          rfl
      rw [ev]
      have m4 : lstAt (h3 ++ [EO.lst (st.2.map fun (n : Nat) => EV.int n)]) h3.length = some (st.2.map fun (n : Nat) => EV.int n) := lstAt_new
      have f4 : Fr [] h3 (h3 ++ [EO.lst (st.2.map fun (n : Nat) => EV.int n)]) := Fr.app _ _ _
      generalize eg4 : h3 ++ [EO.lst (st.2.map fun (n : Nat) => EV.int n)] = h4 at *
      simp [tri_bind, kStarA_ref _ _ m4]
      rw [if_pos (by omega)]
      simp
      exact q _ (((f1.trans f2).trans f3).trans f4)
theorem read_ok {h : EH} {sts : List Step} {K : EV → EH → Prop} (hg : ∀ st ∈ sts, Good st) (hl : sts.length ≤ 20) (q : ∀ l h', Fr [] h h' → h.length ≤ l → mutAt h' l = some (sts.map stE) → K (.ref l) h') : Tri (m_read [.str (textJ sts)] h) K := by
  rw [u_read]
  by_cases hn : sts = []
  · subst hn
    simp [b_read, show textJ [] = ("" : Str) from by decide +kernel]
    exact q _ _ (Fr.app _ _ _) (Nat.le_refl _) mutAt_new
  · have ne := text_ne hg hn
    have tl' := text_len hg hl
    have sl := m_splitS h (textJ sts) nl (by decide +kernel) (by rw [len_tl]; omega)
    rw [text_split hg hn] at sl
    have m1 : lstAt (h ++ [EO.lst ((sts.map rowJ).map EV.str)]) h.length = some ((sts.map rowJ).map EV.str) := lstAt_new
    have f1 : Fr [] h (h ++ [EO.lst ((sts.map rowJ).map EV.str)]) := Fr.app _ _ _
    generalize eg1 : h ++ [EO.lst ((sts.map rowJ).map EV.str)] = h1 at *
    unfold b_read
    simp [-List.append_assoc, -List.length_append, tri_bind, show (Str.ofString "\n") = nl from rfl, sl, kItE_ref m1, ne]
    refine tri_lc (xs := (sts.map rowJ).map EV.str) (fun j acc h' => Fr [] h1 h' ∧ acc = (sts.take j).map stE) ⟨Fr.refl _ _, rfl⟩ (fun _ _ _ ⟨f, _⟩ => f.lst m1 (by simp)) ?_ ?_
    · rintro j x acc h' hx ⟨f, rfl⟩
      rw [List.map_map, List.getElem?_map] at hx
      obtain ⟨st, hst, rfl⟩ := Option.map_eq_some_iff.mp hx
      have hj := (List.getElem?_eq_some_iff.mp hst).1
      simp [wip, tri_bind]
      refine step (hg st (List.mem_of_getElem? hst)) fun h2 f2 => ⟨by omega, f.trans f2, ?_⟩
      rw [List.take_succ, List.getElem?_map, hst]
      rfl
    · rintro acc h' ⟨f, rfl⟩
      rw [List.length_map, List.length_map, List.take_length]
      refine q _ _ ((f1.trans f).trans (Fr.app _ _ _)) ?_ mutAt_new
      have := f1.1; have := f.1; omega
theorem written_ok {h : EH} {l : Nat} {sts : List Step} {K : EV → EH → Prop} (hg : ∀ st ∈ sts, Good st) (hl : sts.length ≤ 20) (hm : lstAt h l = some (sts.map stE)) (q : ∀ h', Fr [] h h' → K (.str (textJ sts)) h') : Tri (m_written [.ref l] h) K := by
  rw [u_written]
  simp [b_written, tri_bind, kItL_ref hm, show (Str.ofString "\n") = nl from rfl, show (Str.ofString " ") = sp from rfl]
  refine tri_lcJ (xs := sts.map stE) (fun j acc h' => Fr [] h h' ∧ acc = (sts.take j).map (fun st => EV.str (rowJ st))) ⟨Fr.refl _ _, rfl⟩ (fun _ _ _ ⟨f, _⟩ => f.lst hm (by simp)) (fun j acc h' ⟨_, e⟩ => by rw [e, List.length_map, List.length_take]; omega) ?_ ?_
  · rintro j x acc h' K' hx ⟨f, rfl⟩ _ hyes
    rw [List.getElem?_map] at hx
    obtain ⟨st, hst, rfl⟩ := Option.map_eq_some_iff.mp hx
    simp
    refine hyes _ fun Ke hKe => ?_
    have g := hg st (List.mem_of_getElem? hst)
    have w5 := g.word.2.2.2.2
    simp [wip, tri_bind, stE]
    refine tri_lcJ (xs := EV.str st.1 :: st.2.map fun (n : Nat) => EV.int n) (fun i ac h2 => Fr [] h' h2 ∧ ac = ((st.1 :: st.2.map numS).take i).map EV.str) ⟨Fr.refl _ _, rfl⟩ (fun _ _ _ _ => rfl) (fun i ac h2 ⟨_, e⟩ => by rw [e, List.length_map, List.length_take, List.length_cons, List.length_map]; omega) ?_ ?_
    · rintro i y ac h2 K2 hy ⟨f2, rfl⟩ _ hyes2
      simp
      refine hyes2 _ fun Kf hKf => ?_
      cases i with
      | zero =>
        simp only [List.getElem?_cons_zero, Option.some.injEq] at hy
        subst hy
        simp [wip]
        exact hKf _ _ ⟨f2, by simp⟩
      | succ i =>
        simp only [List.getElem?_cons_succ, List.getElem?_map] at hy
        obtain ⟨n, hn, rfl⟩ := Option.map_eq_some_iff.mp hy
        have hn' := g.2 n (List.mem_of_getElem? hn)
        simp [wip, f_strI h2 (n : Int) (by omega)]
        refine hKf _ _ ⟨f2, ?_⟩
        simp only [List.take_succ_cons, List.map_cons, List.cons_append]
        rw [List.take_succ, List.getElem?_map, hn]
        simp [numS]
    · rintro ac h2 ⟨f2, rfl⟩
      rw [List.take_of_length_le (by simp)]
      have m1 : lstAt (h2 ++ [EO.lst ((st.1 :: st.2.map numS).map EV.str)]) h2.length = some ((st.1 :: st.2.map numS).map EV.str) := lstAt_new
      have f3 : Fr [] h2 (h2 ++ [EO.lst ((st.1 :: st.2.map numS).map EV.str)]) := Fr.app _ _ _
      generalize eg1 : h2 ++ [EO.lst ((st.1 :: st.2.map numS).map EV.str)] = h3 at *
      rw [m_joinL m1]
      · refine hKe _ _ ⟨(f.trans f2).trans f3, ?_⟩
        rw [List.take_succ, hst]
        simp [rowJ]
      · have hw := g.word.2.1
        have h2 := sum_le (c := 5) (l := (st.2.map numS).map (·.length)) (by
          intro x hx
          obtain ⟨y, hy, rfl⟩ := List.mem_map.mp hx
          obtain ⟨n, hn, rfl⟩ := List.mem_map.mp hy
          exact num_slen (g.2 n hn))
        have h3 : sp.length = 1 := by decide +kernel
        rw [h3]
        rw [← len_tl] at hw
        simp only [List.map_cons, List.sum_cons, List.length_cons, List.length_map] at h2 ⊢
        omega
  · rintro acc h' ⟨f, rfl⟩
    rw [List.length_map, List.take_length]
    have m1 : lstAt (h' ++ [EO.lst ((sts.map rowJ).map EV.str)]) h'.length = some ((sts.map rowJ).map EV.str) := lstAt_new
    have f3 : Fr [] h' (h' ++ [EO.lst ((sts.map rowJ).map EV.str)]) := Fr.app _ _ _
    rw [show (sts.map fun st => EV.str (rowJ st)) = (sts.map rowJ).map EV.str by rw [List.map_map]; rfl]
    generalize eg1 : h' ++ [EO.lst ((sts.map rowJ).map EV.str)] = h3 at *
    rw [m_joinL m1]
    · exact q _ (f.trans f3)
    · have h2 := sum_le (c := 30) (l := (sts.map rowJ).map (·.length)) (by
        intro x hx
        obtain ⟨y, hy, rfl⟩ := List.mem_map.mp hx
        obtain ⟨st, hst, rfl⟩ := List.mem_map.mp hy
        rw [len_tl]
        exact (hg st hst).len)
      have h3 : nl.length = 1 := by decide +kernel
      rw [h3]
      simp only [List.length_map] at h2 ⊢
      omega
end K13
set_option Elab.async false
set_option linter.all false
set_option maxRecDepth 100000
set_option maxHeartbeats 4000000
namespace K13
open PySem L2 EE LW TL
def stD (st : Step) : PyData := .tuple (.str st.1 :: st.2.map fun (n : Nat) => PyData.int n)
theorem dts_nums {h : EH} : ∀ ns : List Nat, Dts h (ns.map fun (n : Nat) => PyData.int n) (ns.map fun (n : Nat) => EV.int n)
  | [] => by simp only [List.map_nil, Dts]
  | n :: ns => by
    simp only [List.map_cons, Dts]
    exact ⟨_, _, rfl, by simp only [Dt], dts_nums ns⟩
theorem dts_steps {h : EH} : ∀ sts : List Step, Dts h (sts.map stD) (sts.map stE)
  | [] => by simp only [List.map_nil, Dts]
  | st :: sts => by
    simp only [List.map_cons, Dts]
    refine ⟨_, _, rfl, ?_, dts_steps sts⟩
    simp only [stD, stE, Dt]
    refine ⟨_, rfl, ?_⟩
    simp only [Dts]
    exact ⟨_, _, rfl, by simp only [Dt], dts_nums st.2⟩
theorem sms_nums : ∀ ns : List Nat, sms (ns.map fun (n : Nat) => PyData.int n) = true
  | [] => by simp only [List.map_nil, sms]
  | n :: ns => by simp only [List.map_cons, sms, sm, sms_nums ns, Bool.and_self]
theorem sms_steps : ∀ {sts : List Step}, (∀ st ∈ sts, Good st) → sms (sts.map stD) = true
  | [], _ => by simp only [List.map_nil, sms]
  | st :: sts, g => by
    have w := (g st List.mem_cons_self).word.2.2.2.2
    simp only [List.map_cons, sms, stD, sm, sms_nums, sms_steps (fun x hx => g x (List.mem_cons_of_mem _ hx)), List.length_cons, List.length_map, Bool.and_self, Bool.and_true, decide_eq_true_eq]
    omega
theorem depth_nums : ∀ ns : List Nat, PyData.depthAll (ns.map fun (n : Nat) => PyData.int n) = 0
  | [] => by simp only [List.map_nil, PyData.depthAll]
  | n :: ns => by simp only [List.map_cons, PyData.depthAll, PyData.depth, depth_nums ns]; rfl
theorem depth_steps : ∀ sts : List Step, PyData.depthAll (sts.map stD) ≤ 1
  | [] => by simp only [List.map_nil, PyData.depthAll]; omega
  | st :: sts => by
    have := depth_steps sts
    simp only [List.map_cons, PyData.depthAll, stD, PyData.depth, depth_nums]
    omega
theorem lay_nums : ∀ ns : List Nat, PyData.canLayAll0 (ns.map fun (n : Nat) => PyData.int n) = true
  | [] => by simp only [List.map_nil, PyData.canLayAll0]
  | n :: ns => by simp only [List.map_cons, PyData.canLayAll0, PyData.canLay0, lay_nums ns, Bool.and_self]
theorem word_str : ∀ p ∈ tab_COUNTS, PyData.strOk p.1 = true := by decide +kernel
theorem lay_steps : ∀ {sts : List Step}, (∀ st ∈ sts, Good st) → PyData.canLayAll0 (sts.map stD) = true
  | [], _ => by simp only [List.map_nil, PyData.canLayAll0]
  | st :: sts, g => by
    have hw := word_str _ (lookup_mem (g st List.mem_cons_self).1)
    simp only at hw
    simp only [List.map_cons, PyData.canLayAll0, stD, PyData.canLay0, lay_nums, hw, lay_steps (fun x hx => g x (List.mem_cons_of_mem _ hx)), Bool.and_self]
theorem dat0s_nums (f : Nat → Option (List PyData)) : ∀ ns : List Nat, dat0s f (ns.map fun (n : Nat) => EV.int n) = some (ns.map fun (n : Nat) => PyData.int n)
  | [] => by simp [dat0s]
  | n :: ns => by simp [dat0s, dat0, dat0s_nums f ns]
theorem dat0s_steps (f : Nat → Option (List PyData)) : ∀ sts : List Step, dat0s f (sts.map stE) = some (sts.map stD)
  | [] => by simp [dat0s]
  | st :: sts => by simp [dat0s, dat0, dat0s_steps f sts, stE, stD, dat0s_nums]
theorem dat_steps {h : EH} {l : Nat} {sts : List Step} (e : lstAt h l = some (sts.map stE)) : dat h (.ref l) = some (.list (sts.map stD)) := by
  have : datF h 4 l = some (sts.map stD) := by
    simp only [datF, e]
    exact dat0s_steps _ sts
  simp [dat, dat0, this]
theorem ne_steps {h : EH} {a b : Nat} {sts : List Step} (hg : ∀ st ∈ sts, Good st) (e1 : lstAt h a = some (sts.map stE)) (e2 : lstAt h b = some (sts.map stE)) : fNe (.ref a) (.ref b) h = .ok (.bl false) h := by
  have hc : (PyData.list (sts.map stD)).canLay0 = true := by simp only [PyData.canLay0, lay_steps hg]
  have hs : SeqAt.shaped (.list (sts.map stD)) = true := by
    unfold SeqAt.shaped
    have := depth_steps sts
    simp only [PyData.canLay0, lay_steps hg, PyData.depth, Bool.true_and, decide_eq_true_eq]
    exact decide_eq_true (Nat.le_trans (Nat.succ_le_succ this) (show 2 ≤ 64 by decide))
  show (fEqS true _ _ _).orElse _ = _
  simp only [fEqS, orE_no, fEqD, dat_steps e1, dat_steps e2, hs, Bool.and_self, if_true]
  rw [SeqAt.eqv_refl _ hc]
  rfl
theorem turn {ns : List Int} {h : EH} {s : Nat} {b c d e f g i : Option EV} {t : EV} {K : Flw → EH → Prop} (hs : LW.St ns h s)
    (q : ∀ es h', LW.St ns h' s → (∃ a b c d e f g i, es = [some (.ref 0), some (.ref s), a, b, c, d, e, f, g, i]) → K (.nx es) h') :
    Tri ((dSeq (dPar 3 4 (dCons (dCall m__law_play (dCons (dVar 1) dNil)) (dCons (dLst dNil) dNil)))
  (dSeq (dFor (dItL (dVar 3)) (dName 5)
  (dSeq (dAsg (dOp fIx (dVar 5) (dC (.int 0))) (dName 6))
  (dSeq (dFor (dItT (dSl fSlT (dVar 5) (dPart (some (dC (.int 1)))) (dPart none))) (dName 7)
  (dAsg (dOp fCatS (dOp fCatS (dVar 6) (dC (.str " "))) (dCB fStr (dCons (dVar 7) dNil))) (dName 6)))
  (dDrop (dBM mApp (dVar 4) (dCons (dVar 6) dNil))))))
  (dSeq (dPar 8 9 (dCons (dSM1 mJoin (dC (.str "\n")) (dVar 4)) (dCons (dCB fListOf (dCons (dVar 3) dNil)) dNil)))
  (dSeq (dIfS (dOr (dNot (dB (dCall (LW.m__law_same 6) (dCons (dCall m_written (dCons (dVar 9) dNil)) (dCons (dVar 8) dNil))))) (dOr (dB (dOp fNe (dVar 9) (dVar 3))) (dNot (dB (dCall (LW.m__law_same 6) (dCons (dCall m_read (dCons (dVar 8) dNil)) (dCons (dVar 3) dNil))))))) (dRet (dC (.bl false)))
  dNext)
  (dDrop (dBM mApp (dCall m_read (dCons (dVar 8) dNil)) (dCons (dC (.int 0)) dNil)))))) ) [some (.ref 0), some (.ref s), some t, b, c, d, e, f, g, i] h) K := by
  simp [-List.append_assoc, -List.length_append, tri_bind]
  refine play hs fun l sts h1 hg hl hm hlt hs1 _ => ?_
  have lsl := hs.lt
  have m2 : mutAt (h1 ++ [EO.lst []]) h1.length = some [] := mutAt_new
  have f2 : Fr [] h1 (h1 ++ [EO.lst []]) := Fr.app _ _ _
  have s2 := hs1.fr f2
  have hm2 := f2.mut hm (by simp)
  have ll := mutAt_lt hm
  generalize eg2 : h1 ++ [EO.lst []] = h2 at *
  simp [-List.append_assoc, -List.length_append, tri_bind, eg2, kItL_ref (lst_mut hm2)]
  have ls1 := hs1.lt
  refine tri_for (xs := sts.map stE) (fun j es h' => ∃ a b c, es = [some (.ref 0), some (.ref s), some t, some (.ref l), some (.ref h1.length), a, b, c, g, i] ∧ LW.St ns h' s ∧ mutAt h' l = some (sts.map stE) ∧ mutAt h' h1.length = some ((sts.take j).map fun st => EV.str (rowJ st)))
    ⟨_, _, _, rfl, s2, hm2, by rw [m2]; rfl⟩ (fun j es h' ⟨_, _, _, _, _, hm', _⟩ => lst_mut hm') ?_ ?_
  · rintro j x es h3 K' hx ⟨va, vb, vc, rfl, s3, m3, r3⟩ hK _ _ _
    rw [List.getElem?_map] at hx
    obtain ⟨st, hst, rfl⟩ := Option.map_eq_some_iff.mp hx
    have hgs := hg st (List.mem_of_getElem? hst)
    have ix : fIx (stE st) (.int 0) h3 = .ok (.str st.1) h3 := f_ixT 0 0 rfl rfl
    have slt : fSlT (stE st) (some 1) none h3 = .ok (.tup (st.2.map fun (n : Nat) => EV.int n)) h3 := f_slT1 h3 _ _
    simp [tri_bind, ix, slt]
    refine tri_for (xs := st.2.map fun (n : Nat) => EV.int n) (fun k es h' => h' = h3 ∧ ∃ c, es = [some (.ref 0), some (.ref s), some t, some (.ref l), some (.ref h1.length), some (stE st), some (.str (rowF st.1 (st.2.take k))), c, g, i]) ⟨rfl, _, rfl⟩ (fun _ _ _ _ => rfl) ?_ ?_
    · rintro k y es h' K2 hy ⟨rfl, vd, rfl⟩ hK2 _ _ _
      rw [List.getElem?_map] at hy
      obtain ⟨n, hn, rfl⟩ := Option.map_eq_some_iff.mp hy
      have hn' := hgs.2 n (List.mem_of_getElem? hn)
      have g' : Good (st.1, st.2) := hgs
      have hw := hgs.word
      have lr : (rowF st.1 (st.2.take k)).length ≤ 90000 := by
        rw [len_tl, tl_rowF]
        have h1 := joinL_len [32] (tl st.1 :: (st.2.take k).map numL)
        have h2 := sum_le (c := 5) (l := ((st.2.take k).map numL).map (·.length)) (by
          intro x hx
          obtain ⟨y, hy, rfl⟩ := List.mem_map.mp hx
          obtain ⟨n, hn, rfl⟩ := List.mem_map.mp hy
          exact num_len (hgs.2 n (List.mem_of_mem_take hn)))
        have h3 : (st.2.take k).length ≤ st.2.length := by rw [List.length_take]; omega
        simp only [List.map_cons, List.sum_cons, List.length_cons, List.length_map, List.length_nil] at h1 h2 ⊢
        omega
      have hsp : sp.length = 1 := by decide +kernel
      have la : (rowF st.1 (st.2.take k) ++ sp).length = (rowF st.1 (st.2.take k)).length + 1 := by
        rw [len_tl, tl_append, List.length_append, ← len_tl, ← len_tl, hsp]
      have hn5 := num_slen hn'
      have fs : fStr [.int (n : Int)] h' = .ok (.str (numS n)) h' := f_strI h' (n : Int) (by omega)
      simp [tri_bind, show (Str.ofString " ") = sp from rfl, f_catS _ (rowF st.1 (st.2.take k)) sp (by omega), fs]
      rw [f_catS _ _ _ (by omega)]
      refine hK2 _ _ ⟨rfl, some (.int n), ?_⟩
      rw [List.take_succ, hn]
      simp [rowF]
    · rintro es h' ⟨rfl, vd, rfl⟩
      rw [List.length_map, List.take_length, row_eq]
      have hjl := (List.getElem?_eq_some_iff.mp hst).1
      have kb : ∀ a es, kBM mApp a es (.ref h1.length) h' = _ := fun a es => kBM_ref es mApp a (lst_mut r3)
      have ma := m_append (x := .str (rowJ st)) r3 (by simp; omega)
      simp [tri_bind, kb, ma]
      have hne : l ≠ h1.length := by omega
      refine hK _ _ ⟨_, _, _, rfl, stX s3 (X := [h1.length]) ((Fr.refl _ _).set (.inl (by simp))) (by simp; omega) (by simp; omega), ?_, ?_⟩
      · rw [mutAt_ne (by omega)]; exact m3
      · rw [mutAt_set (mutAt_lt r3), List.take_succ, hst]
        simp
  · rintro es h3 ⟨va, vb, vc, rfl, s3, m3, r3⟩
    rw [List.length_map, List.take_length] at r3
    rw [show (sts.map fun st => EV.str (rowJ st)) = (sts.map rowJ).map EV.str by rw [List.map_map]; rfl] at r3
    have jn : mJoin (.str nl) [.ref h1.length] h3 = .ok (.str (textJ sts)) h3 := m_joinL (lst_mut r3) (by
      have h2 := sum_le (c := 30) (l := (sts.map rowJ).map (·.length)) (by
        intro x hx
        obtain ⟨y, hy, rfl⟩ := List.mem_map.mp hx
        obtain ⟨st, hst, rfl⟩ := List.mem_map.mp hy
        rw [len_tl]
        exact (hg st hst).len)
      have h3 : nl.length = 1 := by decide +kernel
      rw [h3]
      simp only [List.length_map] at h2 ⊢
      omega)
    have m4 : mutAt (h3 ++ [EO.lst (sts.map stE)]) h3.length = some (sts.map stE) := mutAt_new
    have f4 : Fr [] h3 (h3 ++ [EO.lst (sts.map stE)]) := Fr.app _ _ _
    have ls := f_list (lst_mut m3)
    have s4 := s3.fr f4
    have m3' := f4.mut m3 (by simp)
    generalize eg4 : h3 ++ [EO.lst (sts.map stE)] = h4 at *
    simp [-List.append_assoc, -List.length_append, tri_bind, show (Str.ofString "\n") = nl from rfl, jn, ls]
    refine written_ok hg hl (lst_mut m4) fun h5 f5 => ?_
    refine (same 6 (.str (textJ sts)) _ _ _ (by simp only [Dt]) (by simp only [Dt]) (by simp only [PyData.depth]; omega) (by simp only [sm])).mono ?_
    rintro v h6 ⟨rfl, f6⟩
    have f56 := f5.trans f6
    have ne := ne_steps hg (f56.lst (lst_mut m4) (by simp)) (f56.lst (lst_mut m3') (by simp))
    simp [-List.append_assoc, -List.length_append, tri_bind, ne]
    refine read_ok hg hl fun l7 h7 f7 _ m7 => ?_
    have F7 := f56.trans f7
    refine (same 6 (.list (sts.map stD)) (.ref l7) (.ref l) _ (by simp only [Dt]; exact ⟨_, _, rfl, lst_mut m7, dts_steps sts⟩) (by simp only [Dt]; exact ⟨_, _, rfl, F7.lst (lst_mut m3') (by simp), dts_steps sts⟩) (by have := depth_steps sts; simp only [PyData.depth]; omega) (by simp only [sm, sms_steps hg, List.length_map, Bool.and_true, decide_eq_true_eq]; omega)).mono ?_
    rintro v h8 ⟨rfl, f8⟩
    have F8 := F7.trans f8
    simp [-List.append_assoc, -List.length_append, tri_bind]
    refine read_ok hg hl fun l9 h9 f9 lt9 m9 => ?_
    have F9 := F8.trans f9
    have ma := m_append (x := .int 0) m9 (by rw [List.length_map]; omega)
    have s9 := s4.fr F9
    have l4 := s4.lt
    have := F8.1
    simp [-List.append_assoc, -List.length_append, tri_bind, kBM_ref _ _ _ (lst_mut m9), ma]
    exact q _ _ (stX s9 (X := [l9]) ((Fr.refl _ _).set (.inl (by simp))) (by simp; omega) (by simp; omega)) ⟨_, _, _, _, _, _, _, _, rfl⟩
end K13
set_option Elab.async false
set_option linter.all false
set_option maxRecDepth 100000
set_option maxHeartbeats 4000000
namespace K13
open PySem L2 EE LW TL
theorem read_nil {h : EH} : m_read [.str ("" : Str)] h = .ok (.ref h.length) (h ++ [.lst []]) := by
  rw [u_read]
  simp [b_read]
theorem written_nil {h : EH} {l : Nat} {K : EV → EH → Prop} (hm : lstAt h l = some []) (q : ∀ h', Fr [] h h' → K (.str ("" : Str)) h') : Tri (m_written [.ref l] h) K := by
  refine written_ok (sts := []) (fun _ hx => by simp at hx) (by simp) hm fun h' f => ?_
  rw [show textJ [] = ("" : Str) by decide +kernel]
  exact q h' f
theorem law_okl {ns : List Int} : ∃ h, m_law [.ref 0] [.ro (ns.map EV.int)] = .ok (.bl true) h := by
  have key : Tri (m_law [.ref 0] [.ro (ns.map EV.int)]) (fun v _ => v = .bl true) := by
    rw [u_law]
    unfold b_law
    rw [ap_seq]
    rw [tri_bind]
    rw [tri_bind]
    simp only [ap_asg, ap_call, ap_cons, ap_var, ap_nil, List.getElem?_cons_zero, gV_some, bind_ok, ap_kCons, ap_kCons2, ap_kCall, tri_bind, tri_noer]
    refine start rfl fun h1 s1 f1 => ?_
    simp only [ap_kAsg, ap_name, bind_ok, tri_ok, ap_kAsg2, kSeq_nx, List.set_cons_succ, List.set_cons_zero]
    have hn : ([EO.ro (ns.map EV.int)] : EH).length = 1 := rfl
    rw [hn] at *
    rw [ap_seq, tri_bind, ap_for, tri_bind]
    simp only [ap_itR1, ap_cons, ap_c, ap_nil, bind_ok, ap_kCons, ap_kCons2, ap_kItR1 h1 5 (by decide) (by decide), tri_ok]
    refine tri_for (xs := rng 0 5) (fun i es h' => LW.St ns h' 1 ∧ ∃ a b c d e f g i, es = [some (.ref 0), some (.ref 1), a, b, c, d, e, f, g, i]) ⟨s1, _, _, _, _, _, _, _, _, rfl⟩ (fun _ _ _ _ => rfl) ?_ ?_
    · rintro i x es h2 K hx ⟨s2, va, vb, vc, vd, ve, vf, vg, vi, rfl⟩ hK _ _ _
      simp only [ap_name, tri_ok, List.set_cons_succ, List.set_cons_zero]
      exact turn s2 fun es h3 s3 q => hK _ _ ⟨s3, by obtain ⟨a, b, c, d, e, f, g, i, rfl⟩ := q; exact ⟨_, _, _, _, _, _, _, _, rfl⟩⟩
    · rintro es h2 ⟨s2, va, vb, vc, vd, ve, vf, vg, vi, rfl⟩
      simp only [kSeq_nx]
      have r1 : m_read [.str ("" : Str)] h2 = _ := read_nil
      have m1 : mutAt (h2 ++ [EO.lst []]) h2.length = some [] := mutAt_new
      have f1 : Fr [] h2 (h2 ++ [EO.lst []]) := Fr.app _ _ _
      generalize eg1 : h2 ++ [EO.lst []] = h3 at *
      have m2 : mutAt (h3 ++ [EO.lst []]) h3.length = some [] := mutAt_new
      have f2 : Fr [] h3 (h3 ++ [EO.lst []]) := Fr.app _ _ _
      generalize eg2 : h3 ++ [EO.lst []] = h4 at *
      have eq := f_eqNil (f2.lst (lst_mut m1) (by simp)) (lst_mut m2)
      have m5 : mutAt (h4 ++ [EO.lst []]) h4.length = some [] := mutAt_new
      generalize eg3 : h4 ++ [EO.lst []] = h5 at *
      simp [-List.append_assoc, -List.length_append, tri_bind, r1, eg2, eq, eg3]
      exact written_nil (lst_mut m5) fun h' _ => by simp
  obtain ⟨v, h', e, rfl⟩ := key.ex
  exact ⟨h', e⟩
theorem law_ok : EE.LawOk m_law := fun ns _ => law_okl
end K13
open PySem PySem.W PyProof.Rows
set_option maxHeartbeats 0 in
theorem PySem.Challenge.cw_newsflood_k13_written_and_read_holds : PySem.Challenge.rw_newsflood_k13_written_and_read.Holds := by
  w_on; o_law; k_head; (case hw => w_witness2)
  k_fill
  refine L2.walk_of (l := PySem.Challenge.rw_newsflood_k13_written_and_read) (n := 63) (k := 7) (x := "_law_script") (CX := fun _ => L2.CX0) (sp := fun w => EE.spD0 ⟨_, fun _ => (0, [])⟩ K13.m_law) rfl (by decide) rfl ⟨rfl, by decide, by decide⟩ (fun w h Y => PySem.W.kIn_of Y) ?F (fun _ H a ns hl hO hS => EE.law_sp K13.law_ok hl hO hS) (fun _ _ _ _ _ h => h)
  case F =>
    intro w mg fa h KX G hmg
    refine' K13.all_mk KX G hmg ?a0 ?l0 ?c0 ?k0 ?a1 ?l1 ?c1 ?k1 ?a2 ?l2 ?c2 ?k2 ?a3 ?l3 ?c3 ?k3 ?a4 ?l4 ?c4 ?k4 ?a5 ?l5 ?c5 ?k5 ?a6 ?l6 ?c6 ?k6 ?a7 ?l7 ?c7 ?k7 ?a8 ?l8 ?c8 ?k8 ?z_bool ?z_enumerate ?z_int ?z_isinstance ?z_len ?z_list ?z_range ?z_sorted ?z_str ?z_tuple ?y_MOST_FIGURES ?y_COUNTS ?v_COUNTS
    (case a0 => k_is); (case l0 => k_is); (case c0 => k_is); (case k0 => k_is); (case a1 => k_is); (case l1 => k_is); (case c1 => k_is); (case k1 => k_is); (case a2 => k_is); (case l2 => k_is); (case c2 => k_is); (case k2 => k_is); (case a3 => k_is); (case l3 => k_is); (case c3 => k_is); (case k3 => k_is); (case a4 => k_is); (case l4 => k_is); (case c4 => k_is); (case k4 => k_is); (case a5 => k_is); (case l5 => k_is); (case c5 => k_is); (case k5 => k_is); (case a6 => k_is); (case l6 => k_is); (case c6 => k_is); (case k6 => k_is); (case a7 => k_is); (case l7 => k_is); (case c7 => k_is); (case k7 => k_is); (case a8 => k_is); (case l8 => k_is); (case c8 => k_is); (case k8 => k_is); (case z_bool => k_is); (case z_enumerate => k_is); (case z_int => k_is); (case z_isinstance => k_is); (case z_len => k_is); (case z_list => k_is); (case z_range => k_is); (case z_sorted => k_is); (case z_str => k_is); (case z_tuple => k_is); (case y_MOST_FIGURES => k_is); (case y_COUNTS => k_is); (case v_COUNTS => refine' EE.ktab_of ?x1 ?x2 ?x3; (case x1 => k_is); (case x2 => first | rfl | decide); (case x3 => rfl))
