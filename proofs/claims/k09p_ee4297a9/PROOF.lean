import PyProof.Rows.All
import Wide.All
import OpenK.AllK
import Wide.FinOn
import HandS.ForMost
import HandS.Wide
import HandS.Lambda
import HandS.Deep
import HandS.IsInst
import HandS.Small
import HandS.TupAny
import HandS.DictTup
import HandS.Conv
import HandS.Iter
import HandS.SortInts
import HandS.More
import HandS.DictComp
import HandS.MethStar
import PyProof.CollectIter
import PyProof.WalksMore
import PyProof.WalksS
import HandS.Style
import HandS.TupSets
import HandS.Strs
import HandS.SetFor
import HandS.TupLen
import HandS.Text
import HandS.StrMore
import HandS.RaiseMore
import HandS.Star
import PyProof.Walks
import HandS.Exc
import HandS.ExcOwn
import HandS.WordsExc
import KE.KExcIs
import HandS.ExcIs
import HandS.ExcField
import KE.KExcSuper
import HandS.FStr
import PyProof.FString
import HandS.AnyAll
import HandS.Dict
import HandS.JoinGen
import HandS.EndOwn
import PySem.Challenge.RW_newsflood_k09_hand_ons_shown
set_option Elab.async false
set_option linter.all false
set_option maxRecDepth 100000
set_option maxHeartbeats 1000000
namespace EE
open PySem PySem.Spec PyProof.Rows L2
abbrev Fg := PySem.W.Frag
inductive EV where
  | non | bl (b : Bool) | int (i : Int) | str (x : Str) | ref (n : Nat) | ty (n : String) | tup (xs : List EV) | exc (a : Addr) (d : Option Addr) (nm : List Str) (fs : List EV)
  deriving Inhabited
inductive EO where
  | lst (xs : List EV) | ro (xs : List EV) | dic (t : Bool) (kvs : List (EV × EV)) | lkd (t : Bool) (kvs : List (EV × EV)) | obj (c : Nat) (fs : List (Option EV))
  deriving Inhabited
abbrev ES := List (Option EV)
abbrev EH := List EO
abbrev Rho := List (Bool × Addr)
def adr (ρ : Rho) (n : Nat) : Option Addr := (ρ[n]?).map (·.2)
mutual
def VR (K : Fg) (ρ : Rho) (H : Hp) : EV → V → Prop
  | .non, v => v = .non
  | .bl b, v => v = .bl b
  | .int i, v => v = .int i
  | .str x, v => v = .str x
  | .ref n, v => ∃ a, adr ρ n = some a ∧ v = .ref a
  | .ty n, v => v = .ty n
  | .exc a d nm fs, v => v = .ref a ∧ ∃ vs, VRs K ρ H fs vs ∧ ∀ dd, d = some dd → H dd = some (.xd (nm.zip vs))
  | .tup xs, v => ∃ a vs, v = .ref a ∧ H a = some (.tup vs) ∧ VRs K ρ H xs vs
def VRs (K : Fg) (ρ : Rho) (H : Hp) : List EV → List V → Prop
  | [], vs => vs = []
  | x :: xs, vs => ∃ v r, vs = v :: r ∧ VR K ρ H x v ∧ VRs K ρ H xs r
end
def tabOf (ct : Nat → Addr × List Str) : List (Addr × Str) := (List.range 4).filterMap fun i => match (ct (900 + i)).2 with
  | [q] => some ((ct (900 + i)).1, q)
  | _ => none
def NoTb (v : HO) : Prop := (∀ ps, v ≠ .tbl ps) ∧ (∀ c q, v ≠ LamX.CodeO c q) ∧ ∀ fs, v ≠ .xd fs
theorem tabs_upd {T : List (Addr × Str)} {H : Hp} {p : Addr} {u : HO} (t : LamX.Tabs T H) (hp : ∀ v, H p = some v → NoTb v) : LamX.Tabs T (upd H p u) := fun x hx => by
  obtain ⟨ps, h1, h2, h3⟩ := t x hx
  refine ⟨ps, ?_, h2, fun pos cv hc => ?_⟩
  · rw [upd_ne (fun e => (hp _ (e ▸ h1)).1 _ rfl)]
    exact h1
  · obtain ⟨c, e1, e2⟩ := h3 pos cv hc
    exact ⟨c, e1, by rw [upd_ne (fun e => (hp _ (show H p = some (LamX.CodeO c x.2) by rw [← e]; exact e2)).2.1 _ _ rfl)]; exact e2⟩
theorem pln_lst {xs : List V} : NoTb (.lst xs) := ⟨(fun _ z => nomatch z), (fun _ _ z => by unfold LamX.CodeO at z; cases z), (fun _ z => nomatch z)⟩
theorem pln_dK {xs : List (Key × V)} : NoTb (.dK xs) := ⟨(fun _ z => nomatch z), (fun _ _ z => by unfold LamX.CodeO at z; cases z), (fun _ z => nomatch z)⟩
theorem pln_dT {xs : List (List Key × V)} : NoTb (.dT xs) := ⟨(fun _ z => nomatch z), (fun _ _ z => by unfold LamX.CodeO at z; cases z), (fun _ z => nomatch z)⟩
theorem pln_frz {o : Obj} {v : HO} : NoTb (.frz o v) := ⟨(fun _ z => nomatch z), (fun _ _ z => by unfold LamX.CodeO at z; cases z), (fun _ z => nomatch z)⟩
theorem pln_ins {C dx : Addr} {l : List (Str × V)} : NoTb (.ins C dx l) := ⟨(fun _ z => nomatch z), (fun _ _ z => by unfold LamX.CodeO at z; cases z), (fun _ z => nomatch z)⟩
structure Ext0 (K : Fg) (ρ ρ' : Rho) (H H' : Hp) : Prop where
  pre : ∃ t, ρ' = ρ ++ t
  tup : ∀ a xs, H a = some (.tup xs) → H' a = some (.tup xs)
  frz : ∀ a o u, H a = some (.frz o u) → H' a = some (.frz o u)
  xd : ∀ a fs, H a = some (.xd fs) → H' a = some (.xd fs)
structure Ext (K : Fg) (ρ ρ' : Rho) (H H' : Hp) : Prop extends Ext0 K ρ ρ' H H' where
  new : ∀ a, (true, a) ∈ ρ' → (true, a) ∈ ρ ∨ ∀ o, H a = some o → ∃ ps, o = .tbl ps
  rest : ∀ a o, H a = some o → (∀ ps, o ≠ .tbl ps) → (true, a) ∉ ρ → H' a = some o
theorem Ext.refl (K : Fg) (ρ : Rho) (H : Hp) : Ext K ρ ρ H H :=
  ⟨⟨⟨[], by simp⟩, fun _ _ h => h, fun _ _ _ h => h, fun _ _ h => h⟩, fun _ h => .inl h, fun _ _ h _ _ => h⟩
theorem Ext.trans {K : Fg} {ρ ρ1 ρ2 : Rho} {H H1 H2 : Hp} (a : Ext K ρ ρ1 H H1) (b : Ext K ρ1 ρ2 H1 H2) : Ext K ρ ρ2 H H2 := by
  obtain ⟨t1, e1⟩ := a.pre
  obtain ⟨t2, e2⟩ := b.pre
  refine ⟨⟨⟨t1 ++ t2, by rw [e2, e1, List.append_assoc]⟩, fun x xs h => b.tup _ _ (a.tup _ _ h), fun x o u h => b.frz _ _ _ (a.frz _ _ _ h), fun x fs h => b.xd _ _ (a.xd _ _ h)⟩, fun x h => ?_, fun x o h hp hn => ?_⟩
  · rcases b.new x h with h1 | h1
    · exact a.new x h1
    · by_cases hx : (true, x) ∈ ρ
      · exact .inl hx
      · right
        intro o ho
        by_cases ht : ∃ ps, o = .tbl ps
        · exact ht
        · exact h1 o (a.rest x o ho (fun ps z => ht ⟨ps, z⟩) hx)
  · have h1 := a.rest x o h hp hn
    refine b.rest x o h1 hp fun hm => ?_
    rcases a.new x hm with z | z
    · exact hn z
    · obtain ⟨ps, q⟩ := z o h
      exact hp ps q
theorem Ext0.at {K : Fg} {ρ ρ' : Rho} {H H' : Hp} (e : Ext0 K ρ ρ' H H') {n : Nat} {a : Bool × Addr} (h : ρ[n]? = some a) : ρ'[n]? = some a := by
  obtain ⟨t, rfl⟩ := e.pre
  rw [List.getElem?_append_left (List.getElem?_eq_some_iff.mp h).1]
  exact h
theorem Ext0.get {K : Fg} {ρ ρ' : Rho} {H H' : Hp} (e : Ext0 K ρ ρ' H H') {n : Nat} {a : Addr} (h : adr ρ n = some a) : adr ρ' n = some a := by
  unfold adr at h ⊢
  obtain ⟨b, h1, h2⟩ := Option.map_eq_some_iff.mp h
  rw [e.at h1]
  exact congrArg some h2
theorem adr_of {ρ : Rho} {n : Nat} {b : Bool} {a : Addr} (h : ρ[n]? = some (b, a)) : adr ρ n = some a := by
  unfold adr
  rw [h]
  rfl
mutual
theorem VR.mono0 {K : Fg} {ρ ρ' : Rho} {H H' : Hp} (e : Ext0 K ρ ρ' H H') : ∀ (x : EV) (v : V), VR K ρ H x v → VR K ρ' H' x v
  | .non, v, h => by simp only [VR] at h ⊢; exact h
  | .bl b, v, h => by simp only [VR] at h ⊢; exact h
  | .int i, v, h => by simp only [VR] at h ⊢; exact h
  | .str s, v, h => by simp only [VR] at h ⊢; exact h
  | .ty n, v, h => by simp only [VR] at h ⊢; exact h
  | .exc a d nm fs, v, h => by
    simp only [VR] at h ⊢
    obtain ⟨h1, vs, h2, h3⟩ := h
    exact ⟨h1, vs, VRs.mono0 e fs vs h2, fun dd hd => e.xd _ _ (h3 dd hd)⟩
  | .ref n, v, h => by
    simp only [VR] at h ⊢
    obtain ⟨a, h1, h2⟩ := h
    exact ⟨a, e.get h1, h2⟩
  | .tup xs, v, h => by
    simp only [VR] at h ⊢
    obtain ⟨a, vs, h1, h2, h3⟩ := h
    exact ⟨a, vs, h1, e.tup _ _ h2, VRs.mono0 e xs vs h3⟩
theorem VRs.mono0 {K : Fg} {ρ ρ' : Rho} {H H' : Hp} (e : Ext0 K ρ ρ' H H') : ∀ (xs : List EV) (vs : List V), VRs K ρ H xs vs → VRs K ρ' H' xs vs
  | [], vs, h => by simp only [VRs] at h ⊢; exact h
  | x :: xs, vs, h => by
    simp only [VRs] at h ⊢
    obtain ⟨v, r, h1, h2, h3⟩ := h
    exact ⟨v, r, h1, VR.mono0 e x v h2, VRs.mono0 e xs r h3⟩
end
theorem VR.mono {K : Fg} {ρ ρ' : Rho} {H H' : Hp} (e : Ext K ρ ρ' H H') (x : EV) (v : V) (h : VR K ρ H x v) : VR K ρ' H' x v := VR.mono0 e.toExt0 x v h
theorem VRs.mono {K : Fg} {ρ ρ' : Rho} {H H' : Hp} (e : Ext K ρ ρ' H H') (x : List EV) (v : List V) (h : VRs K ρ H x v) : VRs K ρ' H' x v := VRs.mono0 e.toExt0 x v h
section
variable {K : Fg} {ρ : Rho} {H : Hp}
theorem vr_non {v : V} : VR K ρ H .non v ↔ v = .non := by simp only [VR]
theorem vr_bl {b : Bool} {v : V} : VR K ρ H (.bl b) v ↔ v = .bl b := by simp only [VR]
theorem vr_int {i : Int} {v : V} : VR K ρ H (.int i) v ↔ v = .int i := by simp only [VR]
theorem vr_str {i : Str} {v : V} : VR K ρ H (.str i) v ↔ v = .str i := by simp only [VR]
theorem vr_ty {n : String} {v : V} : VR K ρ H (.ty n) v ↔ v = .ty n := by simp only [VR]
theorem vr_exc {a : Addr} {d : Option Addr} {nm : List Str} {fs : List EV} {v : V} : VR K ρ H (.exc a d nm fs) v ↔ v = .ref a ∧ ∃ vs, VRs K ρ H fs vs ∧ ∀ dd, d = some dd → H dd = some (.xd (nm.zip vs)) := by simp only [VR]
theorem vr_ref {n : Nat} {v : V} : VR K ρ H (.ref n) v ↔ ∃ a, adr ρ n = some a ∧ v = .ref a := by simp only [VR]
theorem vr_tup {xs : List EV} {v : V} : VR K ρ H (.tup xs) v ↔ ∃ a vs, v = .ref a ∧ H a = some (.tup vs) ∧ VRs K ρ H xs vs := by simp only [VR]
theorem vrs_nil {vs : List V} : VRs K ρ H [] vs ↔ vs = [] := by simp only [VRs]
theorem vrs_cons {x : EV} {xs : List EV} {vs : List V} : VRs K ρ H (x :: xs) vs ↔ ∃ v r, vs = v :: r ∧ VR K ρ H x v ∧ VRs K ρ H xs r := by simp only [VRs]
theorem VRs.length : ∀ {xs : List EV} {vs : List V}, VRs K ρ H xs vs → xs.length = vs.length
  | [], vs, h => by rw [vrs_nil] at h; subst h; rfl
  | x :: xs, vs, h => by
    obtain ⟨v, r, rfl, _, h2⟩ := vrs_cons.mp h
    rw [List.length_cons, List.length_cons, VRs.length h2]
theorem VRs.get : ∀ {xs : List EV} {vs : List V} {i : Nat} {x : EV}, VRs K ρ H xs vs → xs[i]? = some x → ∃ v, vs[i]? = some v ∧ VR K ρ H x v
  | [], _, _, _, _, e => by simp at e
  | x :: xs, vs, i, y, h, e => by
    obtain ⟨v, r, rfl, h1, h2⟩ := vrs_cons.mp h
    cases i with
    | zero =>
      simp only [List.getElem?_cons_zero, Option.some.injEq] at e
      subst e
      exact ⟨v, rfl, h1⟩
    | succ i =>
      simp only [List.getElem?_cons_succ] at e ⊢
      exact VRs.get h2 e
theorem VRs.append : ∀ {xs ys : List EV} {vs us : List V}, VRs K ρ H xs vs → VRs K ρ H ys us → VRs K ρ H (xs ++ ys) (vs ++ us)
  | [], ys, vs, us, h, g => by rw [vrs_nil] at h; subst h; exact g
  | x :: xs, ys, vs, us, h, g => by
    obtain ⟨v, r, rfl, h1, h2⟩ := vrs_cons.mp h
    exact vrs_cons.mpr ⟨v, r ++ us, rfl, h1, VRs.append h2 g⟩
theorem VRs.one {x : EV} {v : V} (h : VR K ρ H x v) : VRs K ρ H [x] [v] := vrs_cons.mpr ⟨v, [], rfl, h, vrs_nil.mpr rfl⟩
theorem VRs.set {x : EV} {v : V} (hx : VR K ρ H x v) : ∀ {xs : List EV} {vs : List V} (i : Nat), VRs K ρ H xs vs → VRs K ρ H (xs.set i x) (vs.set i v)
  | [], vs, i, h => by rw [vrs_nil] at h; subst h; exact vrs_nil.mpr rfl
  | y :: xs, vs, i, h => by
    obtain ⟨u, r, rfl, h1, h2⟩ := vrs_cons.mp h
    cases i with
    | zero => exact vrs_cons.mpr ⟨v, r, rfl, hx, h2⟩
    | succ i => exact vrs_cons.mpr ⟨u, r.set i v, rfl, h1, VRs.set hx i h2⟩
theorem VRs.take : ∀ {xs : List EV} {vs : List V} (n : Nat), VRs K ρ H xs vs → VRs K ρ H (xs.take n) (vs.take n)
  | xs, vs, 0, h => by simp only [List.take_zero]; exact vrs_nil.mpr rfl
  | [], vs, n + 1, h => by rw [vrs_nil] at h; subst h; exact vrs_nil.mpr rfl
  | x :: xs, vs, n + 1, h => by
    obtain ⟨v, r, rfl, h1, h2⟩ := vrs_cons.mp h
    exact vrs_cons.mpr ⟨v, r.take n, rfl, h1, VRs.take n h2⟩
theorem VRs.drop : ∀ {xs : List EV} {vs : List V} (n : Nat), VRs K ρ H xs vs → VRs K ρ H (xs.drop n) (vs.drop n)
  | xs, vs, 0, h => h
  | [], vs, n + 1, h => by rw [vrs_nil] at h; subst h; exact vrs_nil.mpr rfl
  | x :: xs, vs, n + 1, h => by
    obtain ⟨v, r, rfl, h1, h2⟩ := vrs_cons.mp h
    exact VRs.drop n h2
theorem VRs.ints : ∀ (ns : List Int), VRs K ρ H (ns.map EV.int) (ns.map V.int)
  | [] => vrs_nil.mpr rfl
  | n :: ns => vrs_cons.mpr ⟨.int n, ns.map V.int, rfl, vr_int.mpr rfl, VRs.ints ns⟩
theorem VRs.of_ints : ∀ {ns : List Int} {vs : List V}, VRs K ρ H (ns.map EV.int) vs → vs = ns.map V.int
  | [], vs, h => vrs_nil.mp h
  | n :: ns, vs, h => by
    obtain ⟨v, r, rfl, h1, h2⟩ := vrs_cons.mp h
    rw [vr_int.mp h1, VRs.of_ints h2]
    rfl
end
structure Gx where
  K : Fg
  ct : Nat → Addr × List Str
def RoL (K : Fg) (H : Hp) (a : Addr) (xs : List V) : Prop :=
  (∃ o, H a = some (.frz o (.lst xs))) ∨
    ∃ (o : Obj) (its : Array Value) (n : Nat), K.lookup a = some o ∧ o.cls = .type "list" ∧ o.dict = none ∧ o.data = .seq its n ∧ its.size ≤ sizeLine ∧ Vals xs its.toList
theorem RoL.sq {K : Fg} {H : Hp} {a : Addr} {xs : List V} (h : RoL K H a xs) : SqL K H a xs := by
  rcases h with ⟨o, h⟩ | h
  · exact .inl (.inr ⟨o, h⟩)
  · exact .inr h
theorem RoL.mono {K : Fg} {ρ ρ' : Rho} {H H' : Hp} (e : Ext0 K ρ ρ' H H') {a : Addr} {xs : List V} (h : RoL K H a xs) : RoL K H' a xs := by
  rcases h with ⟨o, h⟩ | h
  · exact .inl ⟨o, e.frz _ _ _ h⟩
  · exact .inr h
def keyOf : EV → Option Key
  | .int i => some (.inl i)
  | .str x => some (.inr x)
  | _ => none
def keysOf : List EV → Option (List Key)
  | [] => some []
  | x :: xs => match keyOf x, keysOf xs with
    | some k, some ks => some (k :: ks)
    | _, _ => none
def tkeyOf : EV → Option (List Key)
  | .tup xs => keysOf xs
  | _ => none
def KR {κ : Type} (f : EV → Option κ) (R : EV → V → Prop) : List (EV × EV) → List (κ × V) → Prop
  | [], l => l = []
  | p :: ps, l => ∃ k v r, l = (k, v) :: r ∧ f p.1 = some k ∧ R p.2 v ∧ KR f R ps r
def FR (R : EV → V → Prop) : Option EV → Option V → Prop
  | some x, some v => R x v
  | none, none => True
  | _, _ => False
def DR (R : EV → V → Prop) (t : Bool) (kvs : List (EV × EV)) (u : HO) : Prop := match t with
  | false => ∃ l, u = .dK l ∧ KR keyOf R kvs l
  | true => ∃ l, u = .dT l ∧ KR tkeyOf R kvs l
def OR (G : Gx) (ρ : Rho) (H : Hp) : EO → Addr → Prop
  | .lst xs, a => ∃ vs, H a = some (.lst vs) ∧ VRs G.K ρ H xs vs
  | .ro xs, a => ∃ vs, RoL G.K H a vs ∧ VRs G.K ρ H xs vs
  | .dic t kvs, a => ∃ u, H a = some u ∧ DR (VR G.K ρ H) t kvs u
  | .lkd t kvs, a => ∃ f u, H a = some (.frz f u) ∧ DR (VR G.K ρ H) t kvs u
  | .obj c fs, a => ∃ dx l, H a = some (.ins (G.ct c).1 dx l) ∧ fs.length = (G.ct c).2.length ∧ l.length ≤ (fs.filter fun z => z.isSome).length ∧
      (∀ (i : Nat) (x : Option EV), fs[i]? = some x → ∀ m, (G.ct c).2[i]? = some m → FR (VR G.K ρ H) x (l.lookup m)) ∧ ∀ m, m ∉ (G.ct c).2 → l.lookup m = none
def EO.mu : EO → Bool
  | .ro _ => false
  | _ => true
structure HR (G : Gx) (ρ : Rho) (H : Hp) (eh : EH) : Prop where
  tab : LamX.Tabs (tabOf G.ct) H
  len : ρ.length = eh.length
  dis : ∀ (m n : Nat) (a : Addr), ρ[m]? = some (true, a) → ρ[n]? = some (true, a) → m = n
  obj : ∀ (n : Nat) (o : EO), eh[n]? = some o → ∃ a, ρ[n]? = some (o.mu, a) ∧ OR G ρ H o a
theorem KR.mono {κ : Type} {f : EV → Option κ} {R R' : EV → V → Prop} (h : ∀ x v, R x v → R' x v) : ∀ {ps : List (EV × EV)} {l : List (κ × V)}, KR f R ps l → KR f R' ps l
  | [], _, q => q
  | p :: ps, _, ⟨k, v, r, e, h1, h2, h3⟩ => ⟨k, v, r, e, h1, h _ _ h2, KR.mono h h3⟩
theorem FR.mono {R R' : EV → V → Prop} (h : ∀ x v, R x v → R' x v) : ∀ {x : Option EV} {v : Option V}, FR R x v → FR R' x v
  | some _, some _, q => h _ _ q
  | none, none, _ => trivial
  | some _, none, q => q.elim
  | none, some _, q => q.elim
theorem DR.mono {R R' : EV → V → Prop} (h : ∀ x v, R x v → R' x v) : ∀ {t : Bool} {kvs : List (EV × EV)} {u : HO}, DR R t kvs u → DR R' t kvs u
  | false, _, _, ⟨l, e, q⟩ => ⟨l, e, q.mono h⟩
  | true, _, _, ⟨l, e, q⟩ => ⟨l, e, q.mono h⟩
theorem DR.mt {R : EV → V → Prop} : ∀ {t : Bool} {kvs : List (EV × EV)} {u : HO}, DR R t kvs u → L2.Mut (some u)
  | false, _, _, ⟨l, e, q⟩ => by subst e; exact True.intro
  | true, _, _, ⟨l, e, q⟩ => by subst e; exact True.intro
theorem DR.ntup {R : EV → V → Prop} : ∀ {t : Bool} {kvs : List (EV × EV)} {u : HO}, DR R t kvs u → ∀ xs, u ≠ .tup xs
  | false, _, _, ⟨l, e, q⟩, _, z => by subst e; cases z
  | true, _, _, ⟨l, e, q⟩, _, z => by subst e; cases z
theorem DR.nfrz {R : EV → V → Prop} : ∀ {t : Bool} {kvs : List (EV × EV)} {u : HO}, DR R t kvs u → ∀ o v, u ≠ .frz o v
  | false, _, _, ⟨l, e, q⟩, _, _, z => by subst e; cases z
  | true, _, _, ⟨l, e, q⟩, _, _, z => by subst e; cases z
theorem DR.pln {R : EV → V → Prop} : ∀ {t : Bool} {kvs : List (EV × EV)} {u : HO}, DR R t kvs u → NoTb u
  | false, _, _, ⟨l, e, q⟩ => by subst e; exact pln_dK
  | true, _, _, ⟨l, e, q⟩ => by subst e; exact pln_dT
theorem OR.keep {G : Gx} {ρ ρ' : Rho} {H H' : Hp} (e : Ext0 G.K ρ ρ' H H') {o : EO} {a : Addr} (hb : o.mu = true → H' a = H a) (h : OR G ρ H o a) : OR G ρ' H' o a := by
  have m := fun x v => VR.mono0 (K := G.K) (ρ := ρ) (ρ' := ρ') (H := H) (H' := H') e x v
  cases o with
  | lst xs =>
    obtain ⟨vs, h1, h2⟩ := h
    exact ⟨vs, by rw [hb rfl]; exact h1, VRs.mono0 e _ _ h2⟩
  | ro xs =>
    obtain ⟨vs, h1, h2⟩ := h
    exact ⟨vs, h1.mono e, VRs.mono0 e _ _ h2⟩
  | dic t kvs =>
    obtain ⟨u, h1, h2⟩ := h
    exact ⟨u, by rw [hb rfl]; exact h1, h2.mono m⟩
  | lkd t kvs =>
    obtain ⟨f, u, h1, h2⟩ := h
    exact ⟨f, u, by rw [hb rfl]; exact h1, h2.mono m⟩
  | obj c fs =>
    obtain ⟨dx, l, h1, h2, h3, h4, h5⟩ := h
    exact ⟨dx, l, by rw [hb rfl]; exact h1, h2, h3, fun i x hx n hn => (h4 i x hx n hn).mono m, h5⟩
theorem OR.there {G : Gx} {ρ : Rho} {H : Hp} {o : EO} {a : Addr} (hm : o.mu = true) (h : OR G ρ H o a) : ∃ u, H a = some u ∧ ∀ xs, u ≠ .tup xs := by
  cases o with
  | lst xs =>
    obtain ⟨vs, h1, _⟩ := h
    exact ⟨_, h1, fun _ z => by cases z⟩
  | ro xs => cases hm
  | dic t kvs =>
    obtain ⟨u, h1, h2⟩ := h
    exact ⟨u, h1, h2.ntup⟩
  | lkd t kvs =>
    obtain ⟨f, u, h1, h2⟩ := h
    exact ⟨_, h1, fun _ z => by cases z⟩
  | obj c fs =>
    obtain ⟨dx, l, h1, _⟩ := h
    exact ⟨_, h1, fun _ z => by cases z⟩
theorem OR.pln {G : Gx} {ρ : Rho} {H : Hp} {o : EO} {a : Addr} (hm : o.mu = true) (h : OR G ρ H o a) : ∃ u, H a = some u ∧ NoTb u := by
  cases o with
  | lst xs =>
    obtain ⟨vs, h1, _⟩ := h
    exact ⟨_, h1, pln_lst⟩
  | ro xs => cases hm
  | dic t kvs =>
    obtain ⟨u, h1, h2⟩ := h
    exact ⟨u, h1, h2.pln⟩
  | lkd t kvs =>
    obtain ⟨f, u, h1, h2⟩ := h
    exact ⟨_, h1, pln_frz⟩
  | obj c fs =>
    obtain ⟨dx, l, h1, _⟩ := h
    exact ⟨_, h1, pln_ins⟩
theorem Ext.alloc {K : Fg} {ρ : Rho} {H : Hp} {p : Addr} (u : HO) (hp : H p = none) : Ext K ρ (ρ ++ [(true, p)]) H (upd H p u) where
  pre := ⟨[(true, p)], rfl⟩
  tup := fun a xs h => by rw [upd_ne (ne_of_none h hp)]; exact h
  frz := fun a o v h => by rw [upd_ne (ne_of_none h hp)]; exact h
  xd := fun a fs h => by rw [upd_ne (ne_of_none h hp)]; exact h
  new := fun a h => by
    rcases List.mem_append.mp h with h | h
    · exact .inl h
    · have := List.mem_singleton.mp h
      cases this
      exact .inr fun o ho => by rw [hp] at ho; cases ho
  rest := fun a o h _ _ => by rw [upd_ne (ne_of_none h hp)]; exact h
theorem Ext.side {K : Fg} {ρ : Rho} {H : Hp} {p : Addr} (u : HO) (hp : H p = none) : Ext K ρ ρ H (upd H p u) where
  pre := ⟨[], by simp⟩
  tup := fun a xs h => by rw [upd_ne (ne_of_none h hp)]; exact h
  frz := fun a o v h => by rw [upd_ne (ne_of_none h hp)]; exact h
  xd := fun a fs h => by rw [upd_ne (ne_of_none h hp)]; exact h
  new := fun a h => .inl h
  rest := fun a o h _ _ => by rw [upd_ne (ne_of_none h hp)]; exact h
theorem Ext.write {K : Fg} {ρ : Rho} {H : Hp} {n : Nat} {p : Addr} {u0 : HO} (u : HO) (hn : ρ[n]? = some (true, p)) (h0 : H p = some u0) (ht : ∀ xs, u0 ≠ .tup xs) (hf : ∀ o v, u0 ≠ .frz o v) (hl : NoTb u0) : Ext K ρ ρ H (upd H p u) where
  pre := ⟨[], by simp⟩
  tup := fun a xs h => by
    rw [upd_ne]
    · exact h
    · intro e
      subst e
      rw [h0] at h
      cases h
      exact ht _ rfl
  frz := fun a o v h => by
    rw [upd_ne]
    · exact h
    · intro e
      subst e
      rw [h0] at h
      cases h
      exact hf _ _ rfl
  xd := fun a fs h => by
    rw [upd_ne]
    · exact h
    · intro e
      subst e
      rw [h0] at h
      cases h
      exact hl.2.2 _ rfl
  new := fun a h => .inl h
  rest := fun a o h _ hx => by
    rw [upd_ne]
    · exact h
    · intro e
      subst e
      exact hx (List.mem_of_getElem? hn)
theorem Ext.mut {K : Fg} {ρ ρ' : Rho} {H H' : Hp} {p : Addr} {u : HO} (e : Ext K ρ ρ' H H') (hp : H p = none) : Ext K ρ ρ' H (upd H' p u) where
  pre := e.pre
  tup := fun a xs h => by rw [upd_ne (ne_of_none h hp)]; exact e.tup _ _ h
  frz := fun a o v h => by rw [upd_ne (ne_of_none h hp)]; exact e.frz _ _ _ h
  xd := fun a fs h => by rw [upd_ne (ne_of_none h hp)]; exact e.xd _ _ h
  new := e.new
  rest := fun a o h ht hx => by rw [upd_ne (ne_of_none h hp)]; exact e.rest _ _ h ht hx
theorem Ext.push {K : Fg} {ρ ρ' : Rho} {H H' : Hp} {p : Addr} (e : Ext K ρ ρ' H H') (hp : H p = none) : Ext K ρ (ρ' ++ [(true, p)]) H H' where
  pre := by
    obtain ⟨t, ht⟩ := e.pre
    exact ⟨t ++ [(true, p)], by rw [ht, List.append_assoc]⟩
  tup := e.tup
  frz := e.frz
  xd := e.xd
  new := fun a h => by
    rcases List.mem_append.mp h with h | h
    · exact e.new a h
    · have := List.mem_singleton.mp h
      cases this
      exact .inr fun o ho => by rw [hp] at ho; cases ho
  rest := e.rest
theorem HR.ext {G : Gx} {ρ : Rho} {H : Hp} {eh : EH} (h : HR G ρ H eh) {H' : Hp} (e : Ext0 G.K ρ ρ H H') (hk : ∀ a, (true, a) ∈ ρ → H' a = H a) (ht : LamX.Tabs (tabOf G.ct) H') : HR G ρ H' eh where
  tab := ht
  len := h.len
  dis := h.dis
  obj := fun n o ho => by
    obtain ⟨a, ha, hO⟩ := h.obj n o ho
    refine ⟨a, ha, hO.keep e fun hm => hk a ?_⟩
    rw [hm] at ha
    exact List.mem_of_getElem? ha
theorem HR.at {G : Gx} {ρ : Rho} {H : Hp} {eh : EH} (h : HR G ρ H eh) {a : Addr} (hm : (true, a) ∈ ρ) : ∃ (n : Nat) (o : EO), ρ[n]? = some (true, a) ∧ eh[n]? = some o ∧ o.mu = true ∧ OR G ρ H o a := by
  obtain ⟨n, hn⟩ := List.mem_iff_getElem?.mp hm
  have hl : n < eh.length := by
    rw [← h.len]
    exact (List.getElem?_eq_some_iff.mp hn).1
  obtain ⟨a', ha, hO⟩ := h.obj n _ (List.getElem?_eq_getElem hl)
  rw [hn] at ha
  simp only [Option.some.injEq, Prod.mk.injEq] at ha
  obtain ⟨h1, rfl⟩ := ha
  exact ⟨n, _, hn, List.getElem?_eq_getElem hl, h1.symm, hO⟩
theorem HR.fresh {G : Gx} {ρ : Rho} {H : Hp} {eh : EH} (h : HR G ρ H eh) {p : Addr} (hp : H p = none) : (true, p) ∉ ρ := fun hm => by
  obtain ⟨n, o, _, _, h1, h2⟩ := h.at hm
  obtain ⟨u, hu, _⟩ := h2.there h1
  rw [hp] at hu
  cases hu
theorem HR.side {G : Gx} {ρ : Rho} {H : Hp} {eh : EH} (h : HR G ρ H eh) {p : Addr} (u : HO) (hp : H p = none) : HR G ρ (upd H p u) eh :=
  h.ext (Ext.side u hp).toExt0 (fun a ha => upd_ne fun e => h.fresh hp (e ▸ ha)) (tabs_upd h.tab fun v hv => by rw [hp] at hv; cases hv)
theorem HR.push {G : Gx} {ρ : Rho} {H : Hp} {eh : EH} (h : HR G ρ H eh) {p : Addr} {o : EO} (hp : (true, p) ∉ ρ) (hm : o.mu = true) (ho : OR G (ρ ++ [(true, p)]) H o p) : HR G (ρ ++ [(true, p)]) H (eh ++ [o]) where
  tab := h.tab
  len := by simp [h.len]
  dis := fun m n a e1 e2 => by
    have key : ∀ (k : Nat), (ρ ++ [(true, p)])[k]? = some (true, a) → (ρ[k]? = some (true, a) ∧ a ≠ p) ∨ (k = ρ.length ∧ a = p) := by
      intro k hk
      have hl : k < (ρ ++ [(true, p)]).length := (List.getElem?_eq_some_iff.mp hk).1
      simp only [List.length_append, List.length_singleton] at hl
      by_cases hk2 : k < ρ.length
      · rw [List.getElem?_append_left hk2] at hk
        exact .inl ⟨hk, fun e => hp (e ▸ List.mem_of_getElem? hk)⟩
      · have : k = ρ.length := by omega
        subst this
        rw [List.getElem?_append_right (Nat.le_refl _), Nat.sub_self] at hk
        simp only [List.getElem?_cons_zero, Option.some.injEq, Prod.mk.injEq, true_and] at hk
        exact .inr ⟨rfl, hk.symm⟩
    rcases key m e1 with ⟨a3, a4⟩ | ⟨a1, a2⟩
    · rcases key n e2 with ⟨b3, b4⟩ | ⟨b1, b2⟩
      · exact h.dis m n a a3 b3
      · exact absurd b2 a4
    · rcases key n e2 with ⟨b3, b4⟩ | ⟨b1, b2⟩
      · exact absurd a2 b4
      · rw [a1, b1]
  obj := fun n z hz => by
    have hl : n < (eh ++ [o]).length := (List.getElem?_eq_some_iff.mp hz).1
    simp only [List.length_append, List.length_singleton] at hl
    by_cases hk2 : n < eh.length
    · rw [List.getElem?_append_left hk2] at hz
      obtain ⟨a, ha, hO⟩ := h.obj n z hz
      have e : Ext0 G.K ρ (ρ ++ [(true, p)]) H H := ⟨⟨[(true, p)], rfl⟩, fun _ _ q => q, fun _ _ _ q => q, fun _ _ q => q⟩
      exact ⟨a, e.at ha, hO.keep e fun _ => rfl⟩
    · have : n = eh.length := by omega
      subst this
      rw [List.getElem?_append_right (Nat.le_refl _), Nat.sub_self] at hz
      simp only [List.getElem?_cons_zero, Option.some.injEq] at hz
      subst hz
      refine ⟨p, ?_, ho⟩
      rw [List.getElem?_append_right (by rw [h.len]; exact Nat.le_refl _), h.len, Nat.sub_self, hm]
      rfl
theorem HR.alloc {G : Gx} {ρ : Rho} {H : Hp} {eh : EH} (h : HR G ρ H eh) {p : Addr} {u : HO} {o : EO} (hp : H p = none) (hm : o.mu = true) (ho : OR G (ρ ++ [(true, p)]) (upd H p u) o p) : HR G (ρ ++ [(true, p)]) (upd H p u) (eh ++ [o]) :=
  (h.side u hp).push (h.fresh hp) hm ho
theorem HR.write {G : Gx} {ρ : Rho} {H : Hp} {eh : EH} (h : HR G ρ H eh) {n : Nat} {p : Addr} {o' : EO} {u : HO} (hn : ρ[n]? = some (true, p)) (hm : o'.mu = true) (e : Ext G.K ρ ρ H (upd H p u))
    (ho : OR G ρ (upd H p u) o' p) : HR G ρ (upd H p u) (eh.set n o') where
  tab := tabs_upd h.tab fun v hv => by
    obtain ⟨n', o, h1, h2, h3, h4⟩ := h.at (List.mem_of_getElem? hn)
    obtain ⟨u', e1, e2⟩ := h4.pln h3
    rw [hv] at e1
    cases e1
    exact e2
  len := by simp [h.len]
  dis := h.dis
  obj := fun j z hz => by
    by_cases hj : n = j
    · subst hj
      have hl : n < eh.length := by
        have := (List.getElem?_eq_some_iff.mp hz).1
        simpa using this
      rw [List.getElem?_set_self hl] at hz
      cases hz
      exact ⟨p, by rw [hm]; exact hn, ho⟩
    · rw [List.getElem?_set_ne hj] at hz
      obtain ⟨a, ha, hO⟩ := h.obj j z hz
      refine ⟨a, ha, hO.keep e.toExt0 fun hmz => upd_ne fun ea => hj ?_⟩
      subst ea
      rw [hmz] at ha
      exact h.dis n j a hn ha
def SR (K : Fg) (ρ : Rho) (H : Hp) (es : ES) (σ : L2.St) : Prop := σ.length = es.length ∧ ∀ (i : Nat) (v : EV), es[i]? = some (some v) → ∃ u, σ[i]? = some (some u) ∧ VR K ρ H v u
structure Rel (G : Gx) (ρ : Rho) (σ : L2.St) (H : Hp) (es : ES) (eh : EH) : Prop where
  sl : SR G.K ρ H es σ
  hr : HR G ρ H eh
theorem SR.mono {K : Fg} {ρ ρ' : Rho} {H H' : Hp} {es : ES} {σ : L2.St} (e : Ext K ρ ρ' H H') (h : SR K ρ H es σ) : SR K ρ' H' es σ :=
  ⟨h.1, fun i v hv => by
    obtain ⟨u, h1, h2⟩ := h.2 i v hv
    exact ⟨u, h1, VR.mono e _ _ h2⟩⟩
theorem SR.set {K : Fg} {ρ : Rho} {H : Hp} {es : ES} {σ : L2.St} {v : EV} {u : V} (h : SR K ρ H es σ) (i : Nat) (hv : VR K ρ H v u) : SR K ρ H (es.set i (some v)) (σ.set i (some u)) := by
  refine ⟨by simp [h.1], fun j w hw => ?_⟩
  by_cases hj : i = j
  · subst hj
    have hi : i < es.length := by
      have := (List.getElem?_eq_some_iff.mp hw).1
      simpa using this
    rw [List.getElem?_set_self hi] at hw
    cases hw
    exact ⟨u, List.getElem?_set_self (by rw [h.1]; exact hi), hv⟩
  · rw [List.getElem?_set_ne hj] at hw ⊢
    exact h.2 j w hw
theorem SR.unset {K : Fg} {ρ : Rho} {H : Hp} {es : ES} {σ : L2.St} (h : SR K ρ H es σ) (i : Nat) : SR K ρ H (es.set i none) (σ.set i none) := by
  refine ⟨by simp [h.1], fun j w hw => ?_⟩
  by_cases hj : i = j
  · subst hj
    have hi : i < es.length := by
      have := (List.getElem?_eq_some_iff.mp hw).1
      simpa using this
    rw [List.getElem?_set_self hi] at hw
    cases hw
  · rw [List.getElem?_set_ne hj] at hw ⊢
    exact h.2 j w hw
def wip (es : ES) : List Nat → ES
  | [] => es
  | v :: vs => (wip es vs).set v none
theorem SR.wip {K : Fg} {ρ : Rho} {H : Hp} {es : ES} {σ : L2.St} (h : SR K ρ H es σ) : ∀ vs : List Nat, SR K ρ H (EE.wip es vs) (L2.wipe σ vs)
  | [] => h
  | v :: vs => (SR.wip h vs).unset v
theorem Rel.ext {G : Gx} {ρ ρ' : Rho} {σ : L2.St} {H H' : Hp} {es : ES} {eh eh' : EH} (r : Rel G ρ σ H es eh) (e : Ext G.K ρ ρ' H H') (h : HR G ρ' H' eh') : Rel G ρ' σ H' es eh' := ⟨r.sl.mono e, h⟩
end EE
set_option Elab.async false
set_option linter.all false
set_option maxRecDepth 100000
set_option maxHeartbeats 1000000
namespace EE
open PySem PySem.Spec PyProof.Rows L2
structure Exn where
  c : Nat
  fs : List EV
  deriving Inhabited
inductive Res (α : Type) where
  | ok (v : α) (h : EH) | er (x : Exn) (h : EH) | no
def Res.bind {α β : Type} (r : Res α) (k : α → EH → Res β) : Res β := match r with
  | .ok v h => k v h
  | .er x h => .er x h
  | .no => .no
@[simp] theorem bind_ok {α β : Type} (v : α) (h : EH) (k : α → EH → Res β) : (Res.ok v h).bind k = k v h := rfl
@[simp] theorem bind_er {α β : Type} (x : Exn) (h : EH) (k : α → EH → Res β) : (Res.er x h).bind k = .er x h := rfl
@[simp] theorem bind_no {α β : Type} (k : α → EH → Res β) : (Res.no).bind k = .no := rfl
inductive Flw where
  | nx (es : ES) | rt (v : EV) | bk (es : ES) | ct (es : ES)
inductive VF where
  | nx (σ : L2.St) | rt (v : V) | bk (σ : L2.St) | ct (σ : L2.St)
abbrev DE := ES → EH → Res EV
abbrev DT := ES → EH → Res Bool
abbrev DA := ES → EH → Res (List EV)
abbrev DS := ES → EH → Res Flw
abbrev D2 := EV → EV → EH → Res EV
abbrev D1 := EV → EH → Res EV
abbrev DL := List EV → EH → Res EV
def XR (G : Gx) (ρ : Rho) (H : Hp) (x : Exn) (c : Value) (own : Option Addr) : Prop :=
  c = .ref (G.ct x.c).1 ∧ match x.fs with
    | [] => own = none
    | y :: r => ∃ d vs, own = some d ∧ H d = some (.xd ((G.ct x.c).2.zip vs)) ∧ VRs G.K ρ H (y :: r) vs ∧ (G.ct x.c).2.length = (y :: r).length
def wr {α β : Type} (G : Gx) (R : Rho → Hp → α → β → Prop) (ρ : Rho) (H : Hp) (r : Res α) (Q : β → Hp → Prop) (E : XK) : Prop := match r with
  | .ok v h => ∀ ρ' H' u, Ext G.K ρ ρ' H H' → HR G ρ' H' h → R ρ' H' v u → Q u H'
  | .er x h => ∀ ρ' H' c own, Ext G.K ρ ρ' H H' → HR G ρ' H' h → XR G ρ' H' x c own → E c own H'
  | .no => False
theorem wr.mono {α β : Type} {G : Gx} {R : Rho → Hp → α → β → Prop} {ρ ρ1 : Rho} {H H1 : Hp} {r : Res α} {Q : β → Hp → Prop} {E : XK} (e : Ext G.K ρ ρ1 H H1) (h : wr G R ρ H r Q E) : wr G R ρ1 H1 r Q E := by
  cases r with
  | ok v h' => exact fun ρ' H' u e' hr q => h ρ' H' u (e.trans e') hr q
  | er x h' => exact fun ρ' H' c own e' hr q => h ρ' H' c own (e.trans e') hr q
  | no => exact h
def Sound {α β : Type} (G : Gx) (E : XK) (R : Rho → Hp → α → β → Prop) (t : L2.St → Hp → (β → Hp → Prop) → Prop) (d : ES → EH → Res α) : Prop :=
  ∀ ρ σ H es eh Q, Rel G ρ σ H es eh → wr G R ρ H (d es eh) Q E → t σ H Q
theorem Sound.bind {α β : Type} {G : Gx} {E : XK} {R : Rho → Hp → α → β → Prop} {t : L2.St → Hp → (β → Hp → Prop) → Prop} {d : ES → EH → Res α} (h : Sound G E R t d) {ρ : Rho} {σ : L2.St} {H : Hp} {es : ES} {eh : EH} (rel : Rel G ρ σ H es eh)
    {γ δ : Type} {R2 : Rho → Hp → γ → δ → Prop} {k : α → EH → Res γ} {Q2 : δ → Hp → Prop} (hw : wr G R2 ρ H ((d es eh).bind k) Q2 E) {Kt : β → Hp → Prop}
    (hk : ∀ ρ1 H1 v eh1 u, Ext G.K ρ ρ1 H H1 → Rel G ρ1 σ H1 es eh1 → R ρ1 H1 v u → wr G R2 ρ1 H1 (k v eh1) Q2 E → Kt u H1) : t σ H Kt := by
  refine h ρ σ H es eh Kt rel ?_
  cases q : d es eh with
  | ok v h' =>
    rw [q] at hw
    exact fun ρ' H' u e hr r => hk ρ' H' v h' u e (rel.ext e hr) r (hw.mono e)
  | er x h' =>
    rw [q] at hw
    exact hw
  | no =>
    rw [q] at hw
    exact hw
theorem Sound.bind0 {α β : Type} {G : Gx} {E : XK} {R : Rho → Hp → α → β → Prop} {t : L2.St → Hp → (β → Hp → Prop) → Prop} {d : ES → EH → Res α} (h : Sound G E R t d) {ρ0 ρ : Rho} {σ : L2.St} {H0 H : Hp} {es : ES} {eh : EH} (rel : Rel G ρ σ H es eh) (e0 : Ext G.K ρ0 ρ H0 H)
    {γ δ : Type} {R2 : Rho → Hp → γ → δ → Prop} {k : α → EH → Res γ} {Q2 : δ → Hp → Prop} (hw : wr G R2 ρ0 H0 ((d es eh).bind k) Q2 E) {Kt : β → Hp → Prop}
    (hk : ∀ ρ1 H1 v eh1 u, Ext G.K ρ ρ1 H H1 → Rel G ρ1 σ H1 es eh1 → R ρ1 H1 v u → wr G R2 ρ0 H0 (k v eh1) Q2 E → Kt u H1) : t σ H Kt := by
  refine h ρ σ H es eh Kt rel ?_
  cases q : d es eh with
  | ok v h' =>
    rw [q] at hw
    exact fun ρ' H' u e hr r => hk ρ' H' v h' u e (rel.ext e hr) r hw
  | er x h' =>
    rw [q] at hw
    exact fun ρ' H' c own e' hr q => hw ρ' H' c own (e0.trans e') hr q
  | no =>
    rw [q] at hw
    exact hw
abbrev RB : Rho → Hp → Bool → Bool → Prop := fun _ _ a b => a = b
abbrev SndE (G : Gx) (E : XK) (t : TE) (d : DE) : Prop := Sound G E (VR G.K) t d
abbrev SndT (G : Gx) (E : XK) (t : TT) (d : DT) : Prop := Sound G E RB t d
abbrev SndA (G : Gx) (E : XK) (t : TA) (d : DA) : Prop := Sound G E (VRs G.K) t d
def RF (G : Gx) (ρ : Rho) (H : Hp) : Flw → VF → Prop
  | .nx es, .nx σ => SR G.K ρ H es σ
  | .rt v, .rt u => VR G.K ρ H v u
  | .bk es, .bk σ => SR G.K ρ H es σ
  | .ct es, .ct σ => SR G.K ρ H es σ
  | _, _ => False
def qD (D : Ends) : VF → Hp → Prop
  | .nx σ, H => D.nx σ H
  | .rt v, H => D.rt v H
  | .bk σ, H => D.bk σ H
  | .ct σ, H => D.ct σ H
def SndS (G : Gx) (E : XK) (t : TS) (d : DS) : Prop := ∀ ρ σ H es eh D, Rel G ρ σ H es eh → wr G (RF G) ρ H (d es eh) (qD D) E → t D σ H
def Snd2 (G : Gx) (E : XK) (r : R2) (f : D2) : Prop := ∀ ρ H eh x y a b Q, HR G ρ H eh → VR G.K ρ H x a → VR G.K ρ H y b → wr G (VR G.K) ρ H (f x y eh) Q E → r a b H Q
def Snd1 (G : Gx) (E : XK) (r : V → Hp → VK → Prop) (f : D1) : Prop := ∀ ρ H eh x a Q, HR G ρ H eh → VR G.K ρ H x a → wr G (VR G.K) ρ H (f x eh) Q E → r a H Q
def SndL (G : Gx) (E : XK) (r : List V → Hp → VK → Prop) (f : DL) : Prop := ∀ ρ H eh xs as Q, HR G ρ H eh → VRs G.K ρ H xs as → wr G (VR G.K) ρ H (f xs eh) Q E → r as H Q
def SndM (G : Gx) (E : XK) (r : V → List V → Hp → VK → Prop) (f : EV → DL) : Prop := ∀ ρ H eh x a xs as Q, HR G ρ H eh → VR G.K ρ H x a → VRs G.K ρ H xs as → wr G (VR G.K) ρ H (f x xs eh) Q E → r a as H Q
def Res.orElse {α : Type} (r : Res α) (k : Unit → Res α) : Res α := match r with
  | .no => k ()
  | z => z
def d2or (f g : D2) : D2 := fun x y h => (f x y h).orElse fun _ => g x y h
def dLor (f g : DL) : DL := fun x h => (f x h).orElse fun _ => g x h
def dMor (f g : EV → DL) : EV → DL := fun x xs h => (f x xs h).orElse fun _ => g x xs h
theorem wr_or {α β : Type} {G : Gx} {R : Rho → Hp → α → β → Prop} {ρ : Rho} {H : Hp} {r : Res α} {k : Unit → Res α} {Q : β → Hp → Prop} {E : XK} (h : wr G R ρ H (r.orElse k) Q E) : wr G R ρ H r Q E ∨ wr G R ρ H (k ()) Q E := by
  cases r with
  | ok v h' => exact .inl h
  | er x h' => exact .inl h
  | no => exact .inr h
section
variable (X : Cx) (ct : Nat → Addr × List Str) (E : XK)
abbrev Cx.g (X : Cx) (ct : Nat → Addr × List Str) : Gx := ⟨X.K, ct⟩
def PEd (e : Expr) (d : DE) : Prop := ∃ t, PE X e t ∧ SndE ⟨X.K, ct⟩ E t d
def PTd (e : Expr) (d : DT) : Prop := ∃ t, PT X e t ∧ SndT ⟨X.K, ct⟩ E t d
def PWd (e : Expr) (d : DT) : Prop := ∃ t, PW X e t ∧ SndT ⟨X.K, ct⟩ E t d
def PAd (es : List Expr) (d : DA) : Prop := ∃ t, PA X es t ∧ SndA ⟨X.K, ct⟩ E t d
def PSd (s : Stmt) (d : DS) : Prop := ∃ t, PS X s t ∧ SndS ⟨X.K, ct⟩ E t d
def PSsd (s : List Stmt) (d : DS) : Prop := ∃ t, PSs X s t ∧ SndS ⟨X.K, ct⟩ E t d
def Opd (f : Value → Value → Sem Value) (d : D2) : Prop := ∃ r, OpR X f r ∧ Snd2 ⟨X.K, ct⟩ E r d
def Ixd (d : D2) : Prop := ∃ r, IxR X r ∧ Snd2 ⟨X.K, ct⟩ E r d
def Und (f : Value → Sem Value) (d : D1) : Prop := ∃ r, UnR X f r ∧ Snd1 ⟨X.K, ct⟩ E r d
def Cld (f : Value) (d : DL) : Prop := ∃ r, CallR X f r ∧ SndL ⟨X.K, ct⟩ E r d
def Mtd (id : String) (d : EV → DL) : Prop := ∃ r, MtR X id r ∧ SndM ⟨X.K, ct⟩ E r d
end
def dVar (i : Nat) : DE := fun es h => match es[i]? with
  | some (some v) => .ok v h
  | _ => .no
def dC (v : EV) : DE := fun _ h => .ok v h
def dOp (f : D2) (a b : DE) : DE := fun es h => (a es h).bind fun x h1 => (b es h1).bind fun y h2 => f x y h2
def dUn (f : D1) (a : DE) : DE := fun es h => (a es h).bind fun x h1 => f x h1
def dNil : DA := fun _ h => .ok [] h
def dCons (a : DE) (r : DA) : DA := fun es h => (a es h).bind fun x h1 => (r es h1).bind fun xs h2 => .ok (x :: xs) h2
def dCB (f : DL) (a : DA) : DE := fun es h => (a es h).bind fun xs h1 => f xs h1
def dTup (a : DA) : DE := fun es h => (a es h).bind fun xs h1 => if xs.length ≤ 100000 then .ok (.tup xs) h1 else .no
def dLst (a : DA) : DE := fun es h => (a es h).bind fun xs h1 => if xs.length ≤ 100000 then .ok (.ref h1.length) (h1 ++ [.lst xs]) else .no
def dB (a : DE) : DT := fun es h => (a es h).bind fun x h1 => match x with
  | .bl b => .ok b h1
  | _ => .no
def dAnd (a b : DT) : DT := fun es h => (a es h).bind fun c h1 => if c = true then b es h1 else .ok false h1
def dOr (a b : DT) : DT := fun es h => (a es h).bind fun c h1 => if c = true then .ok true h1 else b es h1
def dNot (a : DT) : DT := fun es h => (a es h).bind fun c h1 => .ok (!c) h1
def dAndV (a b : DE) : DE := fun es h => (a es h).bind fun x h1 => match x with
  | .bl c => if c = true then b es h1 else .ok (.bl false) h1
  | _ => .no
def dOrV (a b : DE) : DE := fun es h => (a es h).bind fun x h1 => match x with
  | .bl c => if c = true then .ok (.bl true) h1 else b es h1
  | _ => .no
def dNotV (a : DE) : DE := fun es h => (a es h).bind fun x h1 => match x with
  | .bl c => .ok (.bl (!c)) h1
  | _ => .no
def dIf (t : DT) (a b : DE) : DE := fun es h => (t es h).bind fun c h1 => if c = true then a es h1 else b es h1
section
variable {X : Cx} {ct : Nat → Addr × List Str} {E : XK} {G : Gx}
theorem sz5 {n : Nat} (h : n ≤ 100000) : n ≤ sizeLine := Nat.le_trans h (by decide)
theorem snd_var {i : Nat} : SndE G E (tVar i) (dVar i) := fun ρ σ H es eh Q rel h => by
  unfold dVar at h
  split at h
  · rename_i v hv
    obtain ⟨u, h1, h2⟩ := rel.sl.2 i v hv
    exact ⟨u, h1, h ρ H u (Ext.refl _ _ _) rel.hr h2⟩
  · exact h.elim
theorem snd_c {v : EV} {u : V} (hv : ∀ ρ H, VR G.K ρ H v u) : SndE G E (tC u) (dC v) := fun ρ σ H es eh Q rel h => h ρ H u (Ext.refl _ _ _) rel.hr (hv ρ H)
theorem snd_op {r : R2} {f : D2} {ta tb : TE} {a b : DE} (hr : Snd2 G E r f) (ha : SndE G E ta a) (hb : SndE G E tb b) : SndE G E (tOp r ta tb) (dOp f a b) := fun ρ σ H es eh Q rel h => by
  refine ha.bind rel h fun ρ1 H1 x eh1 u e1 rel1 v1 h1 => ?_
  refine hb.bind rel1 h1 fun ρ2 H2 y eh2 w e2 rel2 v2 h2 => ?_
  exact hr ρ2 H2 eh2 x y u w Q rel2.hr (v1.mono e2) v2 h2
theorem snd_un {r : V → Hp → VK → Prop} {f : D1} {ta : TE} {a : DE} (hr : Snd1 G E r f) (ha : SndE G E ta a) : SndE G E (tUn r ta) (dUn f a) := fun ρ σ H es eh Q rel h => by
  refine ha.bind rel h fun ρ1 H1 x eh1 u e1 rel1 v1 h1 => ?_
  exact hr ρ1 H1 eh1 x u Q rel1.hr v1 h1
theorem snd_nil : SndA G E tNil dNil := fun ρ σ H es eh Q rel h => h ρ H [] (Ext.refl _ _ _) rel.hr (vrs_nil.mpr rfl)
theorem snd_cons {ta : TE} {tr : TA} {a : DE} {r : DA} (ha : SndE G E ta a) (hr : SndA G E tr r) : SndA G E (tCons ta tr) (dCons a r) := fun ρ σ H es eh Q rel h => by
  refine ha.bind rel h fun ρ1 H1 x eh1 u e1 rel1 v1 h1 => ?_
  refine hr.bind rel1 h1 fun ρ2 H2 xs eh2 us e2 rel2 v2 h2 => ?_
  exact h2 ρ2 H2 (u :: us) (Ext.refl _ _ _) rel2.hr (vrs_cons.mpr ⟨u, us, rfl, v1.mono e2, v2⟩)
theorem snd_cb {r : List V → Hp → VK → Prop} {f : DL} {ta : TA} {a : DA} (hr : SndL G E r f) (ha : SndA G E ta a) : SndE G E (tCB r ta) (dCB f a) := fun ρ σ H es eh Q rel h => by
  refine ha.bind rel h fun ρ1 H1 x eh1 u e1 rel1 v1 h1 => ?_
  exact hr ρ1 H1 eh1 x u Q rel1.hr v1 h1
theorem snd_tup {ta : TA} {a : DA} (ha : SndA G E ta a) : SndE G E (tTup ta) (dTup a) := fun ρ σ H es eh Q rel h => by
  refine ha.bind rel h fun ρ1 H1 xs eh1 us e1 rel1 v1 h1 => ?_
  split at h1
  · rename_i hl
    refine ⟨by rw [← v1.length]; exact sz5 hl, fun p hp => ?_⟩
    exact h1 ρ1 _ _ (Ext.side _ hp) (rel1.hr.side _ hp) (vr_tup.mpr ⟨p, us, rfl, upd_same, VRs.mono (Ext.side _ hp) _ _ v1⟩)
  · exact h1.elim
theorem last_get {ρ : Rho} {p : Addr} {n : Nat} (h : ρ.length = n) : adr (ρ ++ [(true, p)]) n = some p := by
  unfold adr
  subst h
  rw [List.getElem?_append_right (Nat.le_refl _), Nat.sub_self]
  rfl
theorem new_lst {ρ : Rho} {H : Hp} {eh : EH} {xs : List EV} {us : List V} {Q : VK} (hr : HR G ρ H eh) (v : VRs G.K ρ H xs us) (h : wr G (VR G.K) ρ H (.ok (.ref eh.length) (eh ++ [.lst xs])) Q E) : ∀ p, H p = none → Q (.ref p) (upd H p (.lst us)) := fun p hp => by
  refine h (ρ ++ [(true, p)]) _ _ (Ext.alloc _ hp) (hr.alloc hp rfl ⟨us, upd_same, VRs.mono (Ext.alloc _ hp) _ _ v⟩) (vr_ref.mpr ⟨p, last_get hr.len, rfl⟩)
theorem snd_lst {ta : TA} {a : DA} (ha : SndA G E ta a) : SndE G E (tLst ta) (dLst a) := fun ρ σ H es eh Q rel h => by
  refine ha.bind rel h fun ρ1 H1 xs eh1 us e1 rel1 v1 h1 => ?_
  split at h1
  · rename_i hl
    exact ⟨by rw [← v1.length]; exact sz5 hl, new_lst rel1.hr v1 h1⟩
  · exact h1.elim
theorem snd_B {ta : TE} {a : DE} (ha : SndE G E ta a) : SndT G E (tB ta) (dB a) := fun ρ σ H es eh Q rel h => by
  refine ha.bind rel h fun ρ1 H1 x eh1 u e1 rel1 v1 h1 => ?_
  cases x with
  | bl b => exact ⟨b, vr_bl.mp v1, h1 ρ1 H1 b (Ext.refl _ _ _) rel1.hr rfl⟩
  | _ => exact h1.elim
theorem snd_and {ta tb : TT} {a b : DT} (ha : SndT G E ta a) (hb : SndT G E tb b) : SndT G E (tAnd ta tb) (dAnd a b) := fun ρ σ H es eh Q rel h => by
  refine ha.bind rel h fun ρ1 H1 x eh1 u e1 rel1 v1 h1 => ?_
  subst v1
  cases x with
  | true => exact iteT (hb ρ1 σ H1 es eh1 Q rel1 h1)
  | false => exact iteF (h1 ρ1 H1 false (Ext.refl _ _ _) rel1.hr rfl)
theorem snd_or {ta tb : TT} {a b : DT} (ha : SndT G E ta a) (hb : SndT G E tb b) : SndT G E (tOr ta tb) (dOr a b) := fun ρ σ H es eh Q rel h => by
  refine ha.bind rel h fun ρ1 H1 x eh1 u e1 rel1 v1 h1 => ?_
  subst v1
  cases x with
  | true => exact iteT (h1 ρ1 H1 true (Ext.refl _ _ _) rel1.hr rfl)
  | false => exact iteF (hb ρ1 σ H1 es eh1 Q rel1 h1)
theorem snd_not {ta : TT} {a : DT} (ha : SndT G E ta a) : SndT G E (tNot ta) (dNot a) := fun ρ σ H es eh Q rel h => by
  refine ha.bind rel h fun ρ1 H1 x eh1 u e1 rel1 v1 h1 => ?_
  subst v1
  exact h1 ρ1 H1 _ (Ext.refl _ _ _) rel1.hr rfl
theorem snd_andV {ta tb : TE} {a b : DE} (ha : SndE G E ta a) (hb : SndE G E tb b) : SndE G E (tAndV ta tb) (dAndV a b) := fun ρ σ H es eh Q rel h => by
  refine ha.bind rel h fun ρ1 H1 x eh1 u e1 rel1 v1 h1 => ?_
  cases x with
  | bl c =>
    refine ⟨c, vr_bl.mp v1, ?_⟩
    cases c with
    | true => exact iteT (hb ρ1 σ H1 es eh1 Q rel1 h1)
    | false => exact iteF (h1 ρ1 H1 _ (Ext.refl _ _ _) rel1.hr (vr_bl.mpr rfl))
  | _ => exact h1.elim
theorem snd_orV {ta tb : TE} {a b : DE} (ha : SndE G E ta a) (hb : SndE G E tb b) : SndE G E (tOrV ta tb) (dOrV a b) := fun ρ σ H es eh Q rel h => by
  refine ha.bind rel h fun ρ1 H1 x eh1 u e1 rel1 v1 h1 => ?_
  cases x with
  | bl c =>
    refine ⟨c, vr_bl.mp v1, ?_⟩
    cases c with
    | true => exact iteT (h1 ρ1 H1 _ (Ext.refl _ _ _) rel1.hr (vr_bl.mpr rfl))
    | false => exact iteF (hb ρ1 σ H1 es eh1 Q rel1 h1)
  | _ => exact h1.elim
theorem snd_notV {ta : TE} {a : DE} (ha : SndE G E ta a) : SndE G E (tNotV ta) (dNotV a) := fun ρ σ H es eh Q rel h => by
  refine ha.bind rel h fun ρ1 H1 x eh1 u e1 rel1 v1 h1 => ?_
  cases x with
  | bl c => exact ⟨c, vr_bl.mp v1, h1 ρ1 H1 _ (Ext.refl _ _ _) rel1.hr (vr_bl.mpr rfl)⟩
  | _ => exact h1.elim
theorem snd_if {tt : TT} {ta tb : TE} {t : DT} {a b : DE} (ht : SndT G E tt t) (ha : SndE G E ta a) (hb : SndE G E tb b) : SndE G E (tIf tt ta tb) (dIf t a b) := fun ρ σ H es eh Q rel h => by
  refine ht.bind rel h fun ρ1 H1 x eh1 u e1 rel1 v1 h1 => ?_
  subst v1
  cases x with
  | true => exact iteT (ha ρ1 σ H1 es eh1 Q rel1 h1)
  | false => exact iteF (hb ρ1 σ H1 es eh1 Q rel1 h1)
theorem xe_var (i : Nat) {x : Str} {pos : Pos} (hN : X.N[i]? = some x := by rfl) (hv : Vis X.env.scope x := by first | exact Or.inl rfl | exact Or.inr (Or.inl rfl) | exact Or.inr (Or.inr rfl)) (hd : (x == ("__debug__" : Str)) = false := by decide)
    (hcd : (x == ("__classdict__" : Str)) = false := by decide) : PEd X ct E (.Name x pos) (dVar i) := ⟨_, pe_var hN hv hd hcd, snd_var⟩
theorem xe_int {i j pos} : PEd X ct E (.Constant (.int i) j pos) (dC (.int i)) := ⟨_, pe_int, snd_c fun _ _ => vr_int.mpr rfl⟩
theorem xe_bl {b j pos} : PEd X ct E (.Constant (.bool b) j pos) (dC (.bl b)) := ⟨_, pe_bl, snd_c fun _ _ => vr_bl.mpr rfl⟩
theorem xe_non {j pos} : PEd X ct E (.Constant .none j pos) (dC .non) := ⟨_, pe_non, snd_c fun _ _ => vr_non.mpr rfl⟩
theorem xe_str {x j pos} : PEd X ct E (.Constant (.str x) j pos) (dC (.str x)) := ⟨_, pe_str, snd_c fun _ _ => vr_str.mpr rfl⟩
theorem xe_globI {x : Str} {pos : Pos} {i : Int} (hg : Gl X x) (hm : ∃ t, X.mg x = some (.int i t)) (hd : (x == ("__debug__" : Str)) = false := by decide) : PEd X ct E (.Name x pos) (dC (.int i)) := by
  obtain ⟨t, hm⟩ := hm
  exact ⟨_, pe_glob (v := .int i) hg hm ⟨t, rfl⟩ hd, snd_c fun _ _ => vr_int.mpr rfl⟩
theorem xe_globS {x : Str} {pos : Pos} {i : Str} (hg : Gl X x) (hm : ∃ t, X.mg x = some (.str i t)) (hd : (x == ("__debug__" : Str)) = false := by decide) : PEd X ct E (.Name x pos) (dC (.str i)) := by
  obtain ⟨t, hm⟩ := hm
  exact ⟨_, pe_glob (v := .str i) hg hm ⟨t, rfl⟩ hd, snd_c fun _ _ => vr_str.mpr rfl⟩
variable {a b c : Expr} {es rest : List Expr} {pos : Pos} {da db dc : DE} {dt du : DT} {dr : DA}
theorem xe_op {op : Operator} {f : D2} (ho : Opd X ct E (binaryOp op) f) (ha : PEd X ct E a da) (hb : PEd X ct E b db) : PEd X ct E (.BinOp a op b pos) (dOp f da db) := by
  obtain ⟨r, h1, h2⟩ := ho
  obtain ⟨ta, a1, a2⟩ := ha
  obtain ⟨tb, b1, b2⟩ := hb
  exact ⟨_, pe_op h1 a1 b1, snd_op h2 a2 b2⟩
theorem xe_un {op : UnaryOp} {f : D1} (ho : Und X ct E (unaryOp op) f) (ha : PEd X ct E a da) : PEd X ct E (.UnaryOp op a pos) (dUn f da) := by
  obtain ⟨r, h1, h2⟩ := ho
  obtain ⟨ta, a1, a2⟩ := ha
  exact ⟨_, pe_un h1 a1, snd_un h2 a2⟩
theorem xe_ix {f : D2} (ho : Ixd X ct E f) (ha : PEd X ct E a da) (hb : PEd X ct E b db) (hs : PlainIx b := by exact fun _ _ => rfl) : PEd X ct E (.Subscript a b pos) (dOp f da db) := by
  obtain ⟨r, h1, h2⟩ := ho
  obtain ⟨ta, a1, a2⟩ := ha
  obtain ⟨tb, b1, b2⟩ := hb
  exact ⟨_, pe_ix h1 a1 b1 hs, snd_op h2 a2 b2⟩
theorem xa_nil : PAd X ct E [] dNil := ⟨_, pa_nil, snd_nil⟩
theorem xe_tup {x1} (h : PAd X ct E es dr) : PEd X ct E (.Tuple es x1 pos) (dTup dr) := by
  obtain ⟨t, h1, h2⟩ := h
  exact ⟨_, pe_tup h1, snd_tup h2⟩
theorem xe_lst (h : PAd X ct E es dr) : PEd X ct E (.List es pos) (dLst dr) := by
  obtain ⟨t, h1, h2⟩ := h
  exact ⟨_, pe_lst h1, snd_lst h2⟩
theorem xt_val {e : Expr} {d : DE} (h : PEd X ct E e d) (he : ∀ whole, isTrue e X.env whole = (do let v ← whole; standAt e.pos; holding [v] (truthy v)) := by intro _; rfl) : PTd X ct E e (dB d) := by
  obtain ⟨t, h1, h2⟩ := h
  exact ⟨_, pt_val h1 he, snd_B h2⟩
theorem xw_and1 (h : PTd X ct E a dt) : PWd X ct E (.BoolOp .And [a] pos) dt := by
  obtain ⟨t, h1, h2⟩ := h
  exact ⟨_, pw_and1 h1, h2⟩
theorem xw_or1 (h : PTd X ct E a dt) : PWd X ct E (.BoolOp .Or [a] pos) dt := by
  obtain ⟨t, h1, h2⟩ := h
  exact ⟨_, pw_or1 h1, h2⟩
theorem xw_and (h : PTd X ct E a dt) (g : PWd X ct E (.BoolOp .And (b :: rest) pos) du) : PWd X ct E (.BoolOp .And (a :: b :: rest) pos) (dAnd dt du) := by
  obtain ⟨t, h1, h2⟩ := h
  obtain ⟨u, g1, g2⟩ := g
  exact ⟨_, pw_and h1 g1, snd_and h2 g2⟩
theorem xw_or (h : PTd X ct E a dt) (g : PWd X ct E (.BoolOp .Or (b :: rest) pos) du) : PWd X ct E (.BoolOp .Or (a :: b :: rest) pos) (dOr dt du) := by
  obtain ⟨t, h1, h2⟩ := h
  obtain ⟨u, g1, g2⟩ := g
  exact ⟨_, pw_or h1 g1, snd_or h2 g2⟩
theorem xt_w (h : PWd X ct E a dt) : PTd X ct E a dt := by
  obtain ⟨t, h1, h2⟩ := h
  exact ⟨_, h1.pt, h2⟩
theorem xt_not (h : PTd X ct E a dt) : PTd X ct E (.UnaryOp .Not a pos) (dNot dt) := by
  obtain ⟨t, h1, h2⟩ := h
  exact ⟨_, pt_not h1, snd_not h2⟩
theorem xe_one {op} (h : PEd X ct E a da) : PEd X ct E (.BoolOp op [a] pos) da := by
  obtain ⟨t, h1, h2⟩ := h
  exact ⟨_, pe_one h1, h2⟩
theorem xe_and (h : PEd X ct E a da) (g : PEd X ct E (.BoolOp .And (b :: rest) pos) db) : PEd X ct E (.BoolOp .And (a :: b :: rest) pos) (dAndV da db) := by
  obtain ⟨t, h1, h2⟩ := h
  obtain ⟨u, g1, g2⟩ := g
  exact ⟨_, pe_and h1 g1, snd_andV h2 g2⟩
theorem xe_or (h : PEd X ct E a da) (g : PEd X ct E (.BoolOp .Or (b :: rest) pos) db) : PEd X ct E (.BoolOp .Or (a :: b :: rest) pos) (dOrV da db) := by
  obtain ⟨t, h1, h2⟩ := h
  obtain ⟨u, g1, g2⟩ := g
  exact ⟨_, pe_or h1 g1, snd_orV h2 g2⟩
theorem xe_not (h : PEd X ct E a da) : PEd X ct E (.UnaryOp .Not a pos) (dNotV da) := by
  obtain ⟨t, h1, h2⟩ := h
  exact ⟨_, pe_not h1, snd_notV h2⟩
theorem xe_if (h : PTd X ct E c dt) (ha : PEd X ct E a da) (hb : PEd X ct E b db) : PEd X ct E (.IfExp c a b pos) (dIf dt da db) := by
  obtain ⟨t, h1, h2⟩ := h
  obtain ⟨ta, a1, a2⟩ := ha
  obtain ⟨tb, b1, b2⟩ := hb
  exact ⟨_, pe_ifExp h1 a1 b1, snd_if h2 a2 b2⟩
end
end EE
set_option Elab.async false
set_option linter.all false
set_option maxRecDepth 100000
set_option maxHeartbeats 1000000
namespace EE
open PySem PySem.Spec PyProof.Rows L2
def lstAt (h : EH) (n : Nat) : Option (List EV) := match h[n]? with
  | some (.lst xs) => some xs
  | some (.ro xs) => some xs
  | _ => none
def mutAt (h : EH) (n : Nat) : Option (List EV) := match h[n]? with
  | some (.lst xs) => some xs
  | _ => none
def dicAt (h : EH) (n : Nat) : Option (Bool × List (EV × EV)) := match h[n]? with
  | some (.dic t xs) => some (t, xs)
  | some (.lkd t xs) => some (t, xs)
  | _ => none
section
variable {G : Gx} {ρ : Rho} {H : Hp} {eh : EH} {n : Nat}
theorem lst_of (hr : HR G ρ H eh) {xs : List EV} (h : lstAt eh n = some xs) : ∃ a vs, adr ρ n = some a ∧ SqL G.K H a vs ∧ VRs G.K ρ H xs vs := by
  unfold lstAt at h
  split at h
  · rename_i ys e
    cases h
    obtain ⟨a, h1, vs, h2, h3⟩ := hr.obj n _ e
    exact ⟨a, vs, adr_of h1, SqL.of h2, h3⟩
  · rename_i ys e
    cases h
    obtain ⟨a, h1, vs, h2, h3⟩ := hr.obj n _ e
    exact ⟨a, vs, adr_of h1, h2.sq, h3⟩
  · cases h
theorem mut_of (hr : HR G ρ H eh) {xs : List EV} (h : mutAt eh n = some xs) : ∃ a vs, adr ρ n = some a ∧ H a = some (.lst vs) ∧ VRs G.K ρ H xs vs ∧ ρ[n]? = some (true, a) := by
  unfold mutAt at h
  split at h
  · rename_i ys e
    cases h
    obtain ⟨a, h1, vs, h2, h3⟩ := hr.obj n _ e
    exact ⟨a, vs, adr_of h1, h2, h3, h1⟩
  · cases h
end
def fInt (c : Int → Int → Bool) (g : Int → Int → EV) : D2 := fun x y h => match x, y with
  | .int i, .int j => if c i j = true then .ok (g i j) h else .no
  | _, _ => .no
def fAddI : D2 := fInt (fun _ _ => true) fun i j => .int (i + j)
def fSub : D2 := fInt (fun _ _ => true) fun i j => .int (i - j)
def fMulI : D2 := fInt (fun i j => (decide (-(2 ^ 64) < i) && decide (i < 2 ^ 64)) || (decide (-(2 ^ 64) < j) && decide (j < 2 ^ 64))) fun i j => .int (i * j)
def fMod : D2 := fInt (fun _ j => decide (0 < j)) fun i j => .int (i % j)
def fDiv : D2 := fInt (fun _ j => decide (0 < j) && decide (j < 2 ^ 64)) fun i j => .int (i / j)
def fPow : D2 := fInt (fun i j => decide (0 ≤ j) && decide (j ≤ 64) && decide (i.natAbs < 2 ^ 64)) fun i j => .int (i ^ j.toNat)
def fLt : D2 := fInt (fun _ _ => true) fun i j => .bl (decide (i < j))
def fLe : D2 := fInt (fun _ _ => true) fun i j => .bl (decide (i ≤ j))
def fGt : D2 := fInt (fun _ _ => true) fun i j => .bl (decide (j < i))
def fGe : D2 := fInt (fun _ _ => true) fun i j => .bl (decide (j ≤ i))
section
variable {X : Cx} {ct : Nat → Addr × List Str} {E : XK} {G : Gx}
theorem snd_I {c : Int → Int → Bool} {C : Int → Int → Prop} {g : Int → Int → EV} {gV : Int → Int → V} (hc : ∀ i j, c i j = true → C i j) (hg : ∀ ρ H i j, VR G.K ρ H (g i j) (gV i j)) : Snd2 G E (rI C gV) (fInt c g) := fun ρ H eh x y a b Q hr hx hy h => by
  unfold fInt at h
  split at h
  · rename_i i j
    split at h
    · rename_i hcc
      exact ⟨i, j, vr_int.mp hx, vr_int.mp hy, hc i j hcc, h ρ H _ (Ext.refl _ _ _) hr (hg _ _ _ _)⟩
    · exact h.elim
  · exact h.elim
theorem snd_I0 {c : Int → Int → Bool} {g : Int → Int → EV} {gV : Int → Int → V} (hg : ∀ ρ H i j, VR G.K ρ H (g i j) (gV i j)) : Snd2 G E (rI0 gV) (fInt c g) := fun ρ H eh x y a b Q hr hx hy h => by
  unfold fInt at h
  split at h
  · rename_i i j
    split at h
    · rename_i hcc
      exact ⟨i, j, vr_int.mp hx, vr_int.mp hy, h ρ H _ (Ext.refl _ _ _) hr (hg _ _ _ _)⟩
    · exact h.elim
  · exact h.elim
theorem OpR.or {f : Value → Value → Sem Value} {r r' : R2} (h : OpR X f r) (h' : OpR X f r') : OpR X f (fun x y H Q => r x y H Q ∨ r' x y H Q) := by
  intro pins s σ H x y v u Q I rx ry q
  rcases q with q | q
  · exact h pins s σ H x y v u Q I rx ry q
  · exact h' pins s σ H x y v u Q I rx ry q
theorem Opd.or {f : Value → Value → Sem Value} {d d' : D2} (h : Opd X ct E f d) (h' : Opd X ct E f d') : Opd X ct E f (d2or d d') := by
  obtain ⟨r, h1, h2⟩ := h
  obtain ⟨r', h1', h2'⟩ := h'
  refine ⟨_, OpR.or h1 h1', fun ρ H eh x y a b Q hr hx hy h => ?_⟩
  rcases wr_or h with h | h
  · exact .inl (h2 ρ H eh x y a b Q hr hx hy h)
  · exact .inr (h2' ρ H eh x y a b Q hr hx hy h)
theorem Ixd.or {d d' : D2} (h : Ixd X ct E d) (h' : Ixd X ct E d') : Ixd X ct E (d2or d d') := by
  obtain ⟨r, h1, h2⟩ := h
  obtain ⟨r', h1', h2'⟩ := h'
  refine ⟨_, h1.or h1', fun ρ H eh x y a b Q hr hx hy h => ?_⟩
  rcases wr_or h with h | h
  · exact .inl (h2 ρ H eh x y a b Q hr hx hy h)
  · exact .inr (h2' ρ H eh x y a b Q hr hx hy h)
theorem Cld.or {f : Value} {d d' : DL} (h : Cld X ct E f d) (h' : Cld X ct E f d') : Cld X ct E f (dLor d d') := by
  obtain ⟨r, h1, h2⟩ := h
  obtain ⟨r', h1', h2'⟩ := h'
  refine ⟨_, h1.or h1', fun ρ H eh xs as Q hr hx h => ?_⟩
  rcases wr_or h with h | h
  · exact .inl (h2 ρ H eh xs as Q hr hx h)
  · exact .inr (h2' ρ H eh xs as Q hr hx h)
theorem Mtd.or {id : String} {d d' : EV → DL} (h : Mtd X ct E id d) (h' : Mtd X ct E id d') : Mtd X ct E id (dMor d d') := by
  obtain ⟨r, h1, h2⟩ := h
  obtain ⟨r', h1', h2'⟩ := h'
  refine ⟨_, h1.or h1', fun ρ H eh x a xs as Q hr hx hxs h => ?_⟩
  rcases wr_or h with h | h
  · exact .inl (h2 ρ H eh x a xs as Q hr hx hxs h)
  · exact .inr (h2' ρ H eh x a xs as Q hr hx hxs h)
theorem pow64 : (2 : Int) ^ 64 = 18446744073709551616 := by decide
theorem o_addI : Opd X ct E (binaryOp .Add) fAddI := ⟨_, op_add, snd_I0 fun _ _ _ _ => vr_int.mpr rfl⟩
theorem o_sub : Opd X ct E (binaryOp .Sub) fSub := ⟨_, op_sub, snd_I0 fun _ _ _ _ => vr_int.mpr rfl⟩
theorem o_mulI : Opd X ct E (binaryOp .Mult) fMulI := ⟨_, op_mul, snd_I (fun i j h => by
  simp only [Bool.or_eq_true, Bool.and_eq_true, decide_eq_true_eq] at h
  exact h) fun _ _ _ _ => vr_int.mpr rfl⟩
theorem o_mod : Opd X ct E (binaryOp .Mod) fMod := ⟨_, op_mod, snd_I (fun i j h => of_decide_eq_true h) fun _ _ _ _ => vr_int.mpr rfl⟩
theorem o_div : Opd X ct E (binaryOp .FloorDiv) fDiv := ⟨_, op_fdivW, snd_I (fun i j h => by
  simp only [Bool.and_eq_true, decide_eq_true_eq] at h
  refine wide_div (b := 64) h.1 ?_ (by decide) (by decide)
  have := h.2
  rw [pow64] at this
  have e : (2 : Nat) ^ 64 = 18446744073709551616 := by decide
  rw [e]
  omega) fun _ _ _ _ => vr_int.mpr rfl⟩
theorem o_pow : Opd X ct E (binaryOp .Pow) fPow := ⟨_, op_pow, snd_I (fun i j h => by
  simp only [Bool.and_eq_true, decide_eq_true_eq] at h
  exact ⟨h.1.1, by omega, h.2⟩) fun _ _ _ _ => vr_int.mpr rfl⟩
theorem o_lt : Opd X ct E (compareOp .Lt) fLt := ⟨_, op_lt, snd_I0 fun _ _ _ _ => vr_bl.mpr rfl⟩
theorem o_le : Opd X ct E (compareOp .LtE) fLe := ⟨_, op_le, snd_I0 fun _ _ _ _ => vr_bl.mpr rfl⟩
theorem o_gt : Opd X ct E (compareOp .Gt) fGt := ⟨_, op_gt, snd_I0 fun _ _ _ _ => vr_bl.mpr rfl⟩
theorem o_ge : Opd X ct E (compareOp .GtE) fGe := ⟨_, op_ge, snd_I0 fun _ _ _ _ => vr_bl.mpr rfl⟩
def fNeg : D1 := fun x h => match x with
  | .int i => .ok (.int (-i)) h
  | _ => .no
theorem o_neg : Und X ct E (unaryOp .USub) fNeg := ⟨_, un_neg, fun ρ H eh x a Q hr hx h => by
  unfold fNeg at h
  split at h
  · rename_i i
    exact ⟨i, vr_int.mp hx, h ρ H _ (Ext.refl _ _ _) hr (vr_int.mpr rfl)⟩
  · exact h.elim⟩
def fCat : D2 := fun x y h => match x, y with
  | .ref m, .ref n => match mutAt h m, mutAt h n with
    | some xs, some ys => if xs.length + ys.length ≤ 100000 then .ok (.ref h.length) (h ++ [.lst (xs ++ ys)]) else .no
    | _, _ => .no
  | _, _ => .no
theorem o_cat : Opd X ct E (binaryOp .Add) fCat := ⟨_, op_cat, fun ρ H eh x y a b Q hr hx hy h => by
  unfold fCat at h
  split at h
  · rename_i m n
    split at h
    · rename_i xs ys e1 e2
      split at h
      · rename_i hl
        obtain ⟨a1, vs, g1, g2, g3, _⟩ := mut_of hr e1
        obtain ⟨a2, us, k1, k2, k3, _⟩ := mut_of hr e2
        obtain ⟨a', q1, rfl⟩ := vr_ref.mp hx
        obtain ⟨b', q2, rfl⟩ := vr_ref.mp hy
        rw [g1] at q1; cases q1
        rw [k1] at q2; cases q2
        refine ⟨a1, a2, vs, us, rfl, rfl, g2, k2, ?_, new_lst hr (g3.append k3) h⟩
        rw [← g3.length, ← k3.length]
        exact sz5 hl
      · exact h.elim
    · exact h.elim
  · exact h.elim⟩
def fRep : D2 := fun x y h => match x, y with
  | .ref m, .int k => match mutAt h m with
    | some xs => if decide (0 ≤ k) && decide (k ≤ 1000) && decide (xs.length ≤ 10) = true then .ok (.ref h.length) (h ++ [.lst (List.replicate k.toNat xs).flatten]) else .no
    | _ => .no
  | _, _ => .no
theorem VRs.rep {K : Fg} {ρ : Rho} {H : Hp} {xs : List EV} {vs : List V} (h : VRs K ρ H xs vs) : ∀ n : Nat, VRs K ρ H (List.replicate n xs).flatten (List.replicate n vs).flatten
  | 0 => vrs_nil.mpr rfl
  | n + 1 => by
    rw [List.replicate_succ, List.replicate_succ, List.flatten_cons, List.flatten_cons]
    exact h.append (VRs.rep h n)
theorem o_rep : Opd X ct E (binaryOp .Mult) fRep := ⟨_, op_rep, fun ρ H eh x y a b Q hr hx hy h => by
  unfold fRep at h
  split at h
  · rename_i m k
    split at h
    · rename_i xs e1
      split at h
      · rename_i hl
        simp only [Bool.and_eq_true, decide_eq_true_eq] at hl
        obtain ⟨⟨l1, l2⟩, l3⟩ := hl
        obtain ⟨a1, vs, g1, g2, g3, _⟩ := mut_of hr e1
        obtain ⟨a', q1, rfl⟩ := vr_ref.mp hx
        rw [g1] at q1; cases q1
        refine ⟨a1, k, vs, rfl, vr_int.mp hy, g2, by omega, by omega, ?_, new_lst hr (g3.rep _) h⟩
        rw [← g3.length]
        have h1 : k.toNat ≤ 1000 := by omega
        exact sz5 (Nat.le_trans (Nat.mul_le_mul l3 h1) (by decide))
      · exact h.elim
    · exact h.elim
  · exact h.elim⟩
def fIxL : D2 := fun x y h => match x, y with
  | .ref m, .int i => match lstAt h m with
    | some xs => match atI xs i with
      | some v => .ok v h
      | none => .no
    | none => .no
  | _, _ => .no
theorem atI_vr {K : Fg} {ρ : Rho} {H : Hp} {xs : List EV} {vs : List V} (h : VRs K ρ H xs vs) {i : Int} {x : EV} (e : atI xs i = some x) : ∃ v, atI vs i = some v ∧ VR K ρ H x v := by
  unfold atI at e ⊢
  rw [← h.length]
  cases q : ixN xs.length i with
  | none => rw [q] at e; cases e
  | some j =>
    rw [q] at e
    exact h.get e
theorem i_lst : Ixd X ct E fIxL := ⟨_, ix_list, fun ρ H eh x y a b Q hr hx hy h => by
  unfold fIxL at h
  split at h
  · rename_i m i
    split at h
    · rename_i xs e1
      split at h
      · rename_i v e2
        obtain ⟨a1, vs, g1, g2, g3⟩ := lst_of hr e1
        obtain ⟨a', q1, rfl⟩ := vr_ref.mp hx
        rw [g1] at q1; cases q1
        obtain ⟨w, w1, w2⟩ := atI_vr g3 e2
        exact ⟨a1, vs, i, w, rfl, vr_int.mp hy, g2, w1, h ρ H _ (Ext.refl _ _ _) hr w2⟩
      · exact h.elim
    · exact h.elim
  · exact h.elim⟩
def fIxT : D2 := fun x y h => match x, y with
  | .tup xs, .int i => match atI xs i with
    | some v => .ok v h
    | none => .no
  | _, _ => .no
theorem i_tup : Ixd X ct E fIxT := ⟨_, ix_tup, fun ρ H eh x y a b Q hr hx hy h => by
  unfold fIxT at h
  split at h
  · rename_i xs i
    split at h
    · rename_i v e2
      obtain ⟨a1, vs, rfl, g2, g3⟩ := vr_tup.mp hx
      obtain ⟨w, w1, w2⟩ := atI_vr g3 e2
      exact ⟨a1, vs, i, w, rfl, vr_int.mp hy, SqT.of g2, w1, h ρ H _ (Ext.refl _ _ _) hr w2⟩
    · exact h.elim
  · exact h.elim⟩
abbrev fIx : D2 := d2or fIxL fIxT
theorem i_ix : Ixd X ct E fIx := i_lst.or i_tup
def cutE (xs : List EV) (lo hi : Option Int) : List EV := (xs.drop (HT.sIx xs.length 0 lo)).take (HT.sIx xs.length xs.length hi - HT.sIx xs.length 0 lo)
def fSl : EV → Option Int → Option Int → EH → Res EV := fun x lo hi h => match x with
  | .ref m => match lstAt h m with
    | some xs => .ok (.ref h.length) (h ++ [.lst (cutE xs lo hi)])
    | none => .no
  | _ => .no
def dPart (e : Option DE) : ES → EH → Res (Option Int) := fun es h => match e with
  | none => .ok none h
  | some d => (d es h).bind fun x h1 => match x with
    | .int i => .ok (some i) h1
    | _ => .no
def dSl (f : EV → Option Int → Option Int → EH → Res EV) (a : DE) (lo hi : ES → EH → Res (Option Int)) : DE := fun es h => (a es h).bind fun x h1 => (lo es h1).bind fun l h2 => (hi es h2).bind fun u h3 => f x l u h3
abbrev RO : Rho → Hp → Option Int → Option Int → Prop := fun _ _ a b => a = b
def POd (X : Cx) (ct : Nat → Addr × List Str) (E : XK) (e : Option Expr) (d : ES → EH → Res (Option Int)) : Prop := ∃ t, PO X e t ∧ Sound ⟨X.K, ct⟩ E RO t d
theorem xo_none : POd X ct E none (dPart none) := ⟨_, po_none, fun ρ σ H es eh Q rel h => h ρ H none (Ext.refl _ _ _) rel.hr rfl⟩
theorem xo_some {e : Expr} {d : DE} (h : PEd X ct E e d) : POd X ct E (some e) (dPart (some d)) := by
  obtain ⟨t, h1, h2⟩ := h
  refine ⟨_, po_some h1, fun ρ σ H es eh Q rel h => ?_⟩
  refine h2.bind rel h fun ρ1 H1 x eh1 u e1 rel1 v1 h1 => ?_
  cases x with
  | int i => exact ⟨i, vr_int.mp v1, h1 ρ1 H1 _ (Ext.refl _ _ _) rel1.hr rfl⟩
  | _ => exact h1.elim
theorem xe_slice {a : Expr} {lo hi : Option Expr} {p2 pos : Pos} {da : DE} {dl dh : ES → EH → Res (Option Int)} (ha : PEd X ct E a da) (hl : POd X ct E lo dl) (hh : POd X ct E hi dh) : PEd X ct E (.Subscript a (.Slice lo hi none p2) pos) (dSl fSl da dl dh) := by
  obtain ⟨t, h1, h2⟩ := ha
  obtain ⟨tl, l1, l2⟩ := hl
  obtain ⟨th, k1, k2⟩ := hh
  refine ⟨_, pe_slice sl_list h1 l1 k1, fun ρ σ H es eh Q rel h => ?_⟩
  refine h2.bind rel h fun ρ1 H1 x eh1 u e1 rel1 v1 h1 => ?_
  refine l2.bind rel1 h1 fun ρ2 H2 l eh2 l' e2 rel2 v2 h2 => ?_
  refine k2.bind rel2 h2 fun ρ3 H3 k eh3 k' e3 rel3 v3 h3 => ?_
  cases v2
  cases v3
  have v1' := (v1.mono e2).mono e3
  unfold fSl at h3
  split at h3
  · rename_i m
    split at h3
    · rename_i xs e4
      obtain ⟨a1, vs, g1, g2, g3⟩ := lst_of rel3.hr e4
      obtain ⟨a', q1, rfl⟩ := vr_ref.mp v1'
      rw [g1] at q1; cases q1
      refine ⟨a1, vs, rfl, g2, new_lst rel3.hr ?_ h3⟩
      unfold cutV
      rw [← g3.length]
      exact (g3.drop _).take _
    · exact h3.elim
  · exact h3.elim
def fLen : DL := fun xs h => match xs with
  | [.ref m] => match lstAt h m with
    | some xs => .ok (.int xs.length) h
    | none => .no
  | [.tup xs] => .ok (.int xs.length) h
  | _ => .no
theorem vrs_one {K : Fg} {ρ : Rho} {H : Hp} {x : EV} {vs : List V} (h : VRs K ρ H [x] vs) : ∃ v, vs = [v] ∧ VR K ρ H x v := by
  obtain ⟨v, r, rfl, h1, h2⟩ := vrs_cons.mp h
  rw [vrs_nil.mp h2]
  exact ⟨v, rfl, h1⟩
theorem vrs_two {K : Fg} {ρ : Rho} {H : Hp} {x y : EV} {vs : List V} (h : VRs K ρ H [x, y] vs) : ∃ v u, vs = [v, u] ∧ VR K ρ H x v ∧ VR K ρ H y u := by
  obtain ⟨v, r, rfl, h1, h2⟩ := vrs_cons.mp h
  obtain ⟨u, rfl, h3⟩ := vrs_one h2
  exact ⟨v, u, rfl, h1, h3⟩
theorem c_len : Cld X ct E (.builtin "len") fLen := ⟨_, call_len_seq, fun ρ H eh xs as Q hr hx h => by
  unfold fLen at h
  split at h
  · rename_i m
    split at h
    · rename_i ys e1
      obtain ⟨v, rfl, hv⟩ := vrs_one hx
      obtain ⟨a1, vs, g1, g2, g3⟩ := lst_of hr e1
      obtain ⟨a', q1, rfl⟩ := vr_ref.mp hv
      rw [g1] at q1; cases q1
      exact ⟨a1, vs, rfl, .inl g2, h ρ H _ (Ext.refl _ _ _) hr (by rw [g3.length]; exact vr_int.mpr rfl)⟩
    · exact h.elim
  · rename_i ys
    obtain ⟨v, rfl, hv⟩ := vrs_one hx
    obtain ⟨a1, vs, rfl, g2, g3⟩ := vr_tup.mp hv
    exact ⟨a1, vs, rfl, .inr (SqT.of g2), h ρ H _ (Ext.refl _ _ _) hr (by rw [g3.length]; exact vr_int.mpr rfl)⟩
  · exact h.elim⟩
def fListOf : DL := fun xs h => match xs with
  | [.ref m] => match lstAt h m with
    | some xs => .ok (.ref h.length) (h ++ [.lst xs])
    | none => .no
  | [.tup xs] => .ok (.ref h.length) (h ++ [.lst xs])
  | _ => .no
theorem c_list : Cld X ct E (.type "list") fListOf := ⟨_, call_list_of, fun ρ H eh xs as Q hr hx h => by
  unfold fListOf at h
  split at h
  · rename_i m
    split at h
    · rename_i ys e1
      obtain ⟨v, rfl, hv⟩ := vrs_one hx
      obtain ⟨a1, vs, g1, g2, g3⟩ := lst_of hr e1
      obtain ⟨a', q1, rfl⟩ := vr_ref.mp hv
      rw [g1] at q1; cases q1
      exact ⟨a1, vs, rfl, .inl g2, new_lst hr g3 h⟩
    · exact h.elim
  · rename_i ys
    obtain ⟨v, rfl, hv⟩ := vrs_one hx
    obtain ⟨a1, vs, rfl, g2, g3⟩ := vr_tup.mp hv
    exact ⟨a1, vs, rfl, .inr (SqT.of g2), new_lst hr g3 h⟩
  · exact h.elim⟩
mutual
def dat0 (f : Nat → Option (List PyData)) : EV → Option PyData
  | .non => some .none
  | .bl b => some (.bool b)
  | .int i => some (.int i)
  | .str x => some (.str x)
  | .ref n => (f n).map PyData.list
  | .ty _ => none
  | .exc _ _ _ _ => none
  | .tup xs => (dat0s f xs).map PyData.tuple
def dat0s (f : Nat → Option (List PyData)) : List EV → Option (List PyData)
  | [] => some []
  | x :: xs => match dat0 f x, dat0s f xs with
    | some d, some ds => some (d :: ds)
    | _, _ => none
end
def datF (h : EH) : Nat → Nat → Option (List PyData)
  | 0, _ => none
  | n + 1, k => match lstAt h k with
    | some xs => dat0s (datF h n) xs
    | none => none
def dat (h : EH) (x : EV) : Option PyData := dat0 (datF h 4) x
mutual
theorem dat0_dp {G : Gx} {ρ : Rho} {H : Hp} {f : Nat → Option (List PyData)} (hf : ∀ n ds, f n = some ds → ∃ a vs, adr ρ n = some a ∧ SqL G.K H a vs ∧ DpAll G.K H vs ds) : ∀ (x : EV) (v : V) (d : PyData), VR G.K ρ H x v → dat0 f x = some d → Dp G.K H v d
  | .non, v, d, hx, h => by
    rw [vr_non.mp hx]
    simp only [dat0, Option.some.injEq] at h
    subst h
    exact .non
  | .bl b, v, d, hx, h => by
    rw [vr_bl.mp hx]
    simp only [dat0, Option.some.injEq] at h
    subst h
    exact .bl b
  | .int b, v, d, hx, h => by
    rw [vr_int.mp hx]
    simp only [dat0, Option.some.injEq] at h
    subst h
    exact .int b
  | .str b, v, d, hx, h => by
    rw [vr_str.mp hx]
    simp only [dat0, Option.some.injEq] at h
    subst h
    exact .str b
  | .ty b, v, d, hx, h => by
    simp only [dat0] at h
    cases h
  | .exc _ _ _ _, v, d, hx, h => by
    simp only [dat0] at h
    cases h
  | .ref n, v, d, hx, h => by
    simp only [dat0] at h
    obtain ⟨ds, h1, rfl⟩ := Option.map_eq_some_iff.mp h
    obtain ⟨a, vs, e1, e2, e3⟩ := hf n ds h1
    obtain ⟨a', e4, rfl⟩ := vr_ref.mp hx
    rw [e1] at e4; cases e4
    exact .lst e2 e3
  | .tup xs, v, d, hx, h => by
    simp only [dat0] at h
    obtain ⟨ds, h1, rfl⟩ := Option.map_eq_some_iff.mp h
    obtain ⟨a, vs, rfl, e2, e3⟩ := vr_tup.mp hx
    exact .tup (SqT.of e2) (dat0s_dp hf xs vs ds e3 h1)
theorem dat0s_dp {G : Gx} {ρ : Rho} {H : Hp} {f : Nat → Option (List PyData)} (hf : ∀ n ds, f n = some ds → ∃ a vs, adr ρ n = some a ∧ SqL G.K H a vs ∧ DpAll G.K H vs ds) : ∀ (xs : List EV) (vs : List V) (ds : List PyData), VRs G.K ρ H xs vs → dat0s f xs = some ds → DpAll G.K H vs ds
  | [], vs, ds, hx, h => by
    rw [vrs_nil.mp hx]
    simp only [dat0s, Option.some.injEq] at h
    subst h
    exact .nil
  | x :: xs, vs, ds, hx, h => by
    obtain ⟨v, r, rfl, h1, h2⟩ := vrs_cons.mp hx
    simp only [dat0s] at h
    split at h
    · rename_i d ds' e1 e2
      cases h
      exact .cons (dat0_dp hf x v d h1 e1) (dat0s_dp hf xs r ds' h2 e2)
    · cases h
end
theorem datF_dp {G : Gx} {ρ : Rho} {H : Hp} {eh : EH} (hr : HR G ρ H eh) : ∀ (m n : Nat) (ds : List PyData), datF eh m n = some ds → ∃ a vs, adr ρ n = some a ∧ SqL G.K H a vs ∧ DpAll G.K H vs ds
  | 0, n, ds, h => by cases h
  | m + 1, n, ds, h => by
    simp only [datF] at h
    split at h
    · rename_i xs e1
      obtain ⟨a, vs, g1, g2, g3⟩ := lst_of hr e1
      exact ⟨a, vs, g1, g2, dat0s_dp (fun k ks => datF_dp hr m k ks) xs vs ds g3 h⟩
    · cases h
theorem dat_dp {G : Gx} {ρ : Rho} {H : Hp} {eh : EH} (hr : HR G ρ H eh) {x : EV} {v : V} {d : PyData} (hx : VR G.K ρ H x v) (h : dat eh x = some d) : Dp G.K H v d := dat0_dp (datF_dp hr 4) x v d hx h
def fEqS (neg : Bool) : D2 := fun x y h => match x, y with
  | .int i, .int j => .ok (.bl (neg ^^ decide (i = j))) h
  | .bl i, .bl j => .ok (.bl (neg ^^ decide (i = j))) h
  | .str i, .str j => .ok (.bl (neg ^^ decide (i = j))) h
  | _, _ => .no
def fEqD (neg : Bool) : D2 := fun x y h => match dat h x, dat h y with
  | some d, some e => if (SeqAt.shaped d && SeqAt.shaped e) = true then .ok (.bl (neg ^^ PyData.eqv d e)) h else .no
  | _, _ => .no
abbrev fEq : D2 := d2or (fEqS false) (fEqD false)
abbrev fNe : D2 := d2or (fEqS true) (fEqD true)
theorem o_eqS : Opd X ct E (compareOp .Eq) (fEqS false) := ⟨_, op_eq, fun ρ H eh x y a b Q hr hx hy h => by
  unfold fEqS at h
  split at h
  · rename_i i j
    rw [vr_int.mp hx, vr_int.mp hy]
    refine ⟨rfl, h ρ H _ (Ext.refl _ _ _) hr (vr_bl.mpr ?_)⟩
    simp
  · rename_i i j
    rw [vr_bl.mp hx, vr_bl.mp hy]
    refine ⟨rfl, h ρ H _ (Ext.refl _ _ _) hr (vr_bl.mpr ?_)⟩
    simp
  · rename_i i j
    rw [vr_str.mp hx, vr_str.mp hy]
    refine ⟨rfl, h ρ H _ (Ext.refl _ _ _) hr (vr_bl.mpr ?_)⟩
    simp
  · exact h.elim⟩
theorem o_neS : Opd X ct E (compareOp .NotEq) (fEqS true) := ⟨_, op_ne, fun ρ H eh x y a b Q hr hx hy h => by
  unfold fEqS at h
  split at h
  · rename_i i j
    rw [vr_int.mp hx, vr_int.mp hy]
    refine ⟨rfl, h ρ H _ (Ext.refl _ _ _) hr (vr_bl.mpr ?_)⟩
    simp
  · rename_i i j
    rw [vr_bl.mp hx, vr_bl.mp hy]
    refine ⟨rfl, h ρ H _ (Ext.refl _ _ _) hr (vr_bl.mpr ?_)⟩
    simp
  · rename_i i j
    rw [vr_str.mp hx, vr_str.mp hy]
    refine ⟨rfl, h ρ H _ (Ext.refl _ _ _) hr (vr_bl.mpr ?_)⟩
    simp
  · exact h.elim⟩
theorem o_eqD (hu : X.A.units + 64 < cLine) : Opd X ct E (compareOp .Eq) (fEqD false) := ⟨_, op_eqD hu, fun ρ H eh x y a b Q hr hx hy h => by
  unfold fEqD at h
  split at h
  · rename_i d e e1 e2
    split at h
    · rename_i hs
      simp only [Bool.and_eq_true] at hs
      refine ⟨d, e, dat_dp hr hx e1, dat_dp hr hy e2, hs.1, hs.2, h ρ H _ (Ext.refl _ _ _) hr (vr_bl.mpr ?_)⟩
      simp
    · exact h.elim
  · exact h.elim⟩
theorem o_neD (hu : X.A.units + 64 < cLine) : Opd X ct E (compareOp .NotEq) (fEqD true) := ⟨_, op_neD hu, fun ρ H eh x y a b Q hr hx hy h => by
  unfold fEqD at h
  split at h
  · rename_i d e e1 e2
    split at h
    · rename_i hs
      simp only [Bool.and_eq_true] at hs
      refine ⟨d, e, dat_dp hr hx e1, dat_dp hr hy e2, hs.1, hs.2, h ρ H _ (Ext.refl _ _ _) hr (vr_bl.mpr ?_)⟩
      simp
    · exact h.elim
  · exact h.elim⟩
theorem o_eq (hu : X.A.units + 64 < cLine) : Opd X ct E (compareOp .Eq) fEq := o_eqS.or (o_eqD hu)
theorem o_ne (hu : X.A.units + 64 < cLine) : Opd X ct E (compareOp .NotEq) fNe := o_neS.or (o_neD hu)
def fInL (neg : Bool) : D2 := fun x y h => match y with
  | .ref n => match dat h x, datF h 4 n with
    | some d, some ds => if (SeqAt.shaped d && SeqAt.shaped (.list ds)) = true then .ok (.bl (neg ^^ ds.any fun z => PyData.eqv z d)) h else .no
    | _, _ => .no
  | _ => .no
theorem dat_ref {eh : EH} {n : Nat} {ds : List PyData} (h : datF eh 4 n = some ds) : dat eh (.ref n) = some (.list ds) := by
  unfold dat
  simp only [dat0, h, Option.map_some]
theorem o_inL (hu : X.A.units + 65 < cLine) : Opd X ct E (compareOp .In) (fInL false) := ⟨_, op_inD hu, fun ρ H eh x y a b Q hr hx hy h => by
  unfold fInL at h
  split at h
  · rename_i n
    split at h
    · rename_i d ds e1 e2
      split at h
      · rename_i hs
        simp only [Bool.and_eq_true] at hs
        refine ⟨d, ds, dat_dp hr hx e1, dat_dp hr hy (dat_ref e2), hs.1, hs.2, h ρ H _ (Ext.refl _ _ _) hr (vr_bl.mpr ?_)⟩
        simp
      · exact h.elim
    · exact h.elim
  · exact h.elim⟩
theorem o_notInL (hu : X.A.units + 65 < cLine) : Opd X ct E (compareOp .NotIn) (fInL true) := ⟨_, op_notInD hu, fun ρ H eh x y a b Q hr hx hy h => by
  unfold fInL at h
  split at h
  · rename_i n
    split at h
    · rename_i d ds e1 e2
      split at h
      · rename_i hs
        simp only [Bool.and_eq_true] at hs
        refine ⟨d, ds, dat_dp hr hx e1, dat_dp hr hy (dat_ref e2), hs.1, hs.2, h ρ H _ (Ext.refl _ _ _) hr (vr_bl.mpr ?_)⟩
        simp
      · exact h.elim
    · exact h.elim
  · exact h.elim⟩
def fIsN (neg : Bool) : D2 := fun x y h => match x, y with
  | .non, .non => .ok (.bl (neg ^^ true)) h
  | .int _, .non => .ok (.bl (neg ^^ false)) h
  | .bl _, .non => .ok (.bl (neg ^^ false)) h
  | .str _, .non => .ok (.bl (neg ^^ false)) h
  | .ref _, .non => .ok (.bl (neg ^^ false)) h
  | .tup _, .non => .ok (.bl (neg ^^ false)) h
  | _, _ => .no
theorem o_isN : Opd X ct E (compareOp .Is) (fIsN false) := ⟨_, op_isN, fun ρ H eh x y a b Q hr hx hy h => by
  unfold fIsN at h
  split at h
  · rw [vr_non.mp hx]
    exact ⟨vr_non.mp hy, h ρ H _ (Ext.refl _ _ _) hr (vr_bl.mpr (by simp))⟩
  · rw [vr_int.mp hx]
    exact ⟨vr_non.mp hy, h ρ H _ (Ext.refl _ _ _) hr (vr_bl.mpr (by simp))⟩
  · rw [vr_bl.mp hx]
    exact ⟨vr_non.mp hy, h ρ H _ (Ext.refl _ _ _) hr (vr_bl.mpr (by simp))⟩
  · rw [vr_str.mp hx]
    exact ⟨vr_non.mp hy, h ρ H _ (Ext.refl _ _ _) hr (vr_bl.mpr (by simp))⟩
  · obtain ⟨q, _, rfl⟩ := vr_ref.mp hx
    exact ⟨vr_non.mp hy, h ρ H _ (Ext.refl _ _ _) hr (vr_bl.mpr (by simp))⟩
  · obtain ⟨q, _, rfl, _⟩ := vr_tup.mp hx
    exact ⟨vr_non.mp hy, h ρ H _ (Ext.refl _ _ _) hr (vr_bl.mpr (by simp))⟩
  · exact h.elim⟩
theorem o_notN : Opd X ct E (compareOp .IsNot) (fIsN true) := ⟨_, op_notN, fun ρ H eh x y a b Q hr hx hy h => by
  unfold fIsN at h
  split at h
  · rw [vr_non.mp hx]
    exact ⟨vr_non.mp hy, h ρ H _ (Ext.refl _ _ _) hr (vr_bl.mpr (by simp))⟩
  · rw [vr_int.mp hx]
    exact ⟨vr_non.mp hy, h ρ H _ (Ext.refl _ _ _) hr (vr_bl.mpr (by simp))⟩
  · rw [vr_bl.mp hx]
    exact ⟨vr_non.mp hy, h ρ H _ (Ext.refl _ _ _) hr (vr_bl.mpr (by simp))⟩
  · rw [vr_str.mp hx]
    exact ⟨vr_non.mp hy, h ρ H _ (Ext.refl _ _ _) hr (vr_bl.mpr (by simp))⟩
  · obtain ⟨q, _, rfl⟩ := vr_ref.mp hx
    exact ⟨vr_non.mp hy, h ρ H _ (Ext.refl _ _ _) hr (vr_bl.mpr (by simp))⟩
  · obtain ⟨q, _, rfl, _⟩ := vr_tup.mp hx
    exact ⟨vr_non.mp hy, h ρ H _ (Ext.refl _ _ _) hr (vr_bl.mpr (by simp))⟩
  · exact h.elim⟩
variable {a b c e : Expr} {es rest : List Expr} {pos : Pos} {da db dc : DE} {dt du : DT} {dr : DA}
theorem xe_cmp {op : CmpOp} {f : D2} (ho : Opd X ct E (compareOp op) f) (ha : PEd X ct E a da) (hb : PEd X ct E b db) (hm : behindInMarks op b = false := by first | exact nobehind _ (by decide) (by decide) | rfl) : PEd X ct E (.Compare a [op] [b] pos) (dOp f da db) := by
  obtain ⟨r, h1, h2⟩ := ho
  obtain ⟨ta, a1, a2⟩ := ha
  obtain ⟨tb, b1, b2⟩ := hb
  exact ⟨_, pe_cmpR h1 a1 b1 hm, snd_op h2 a2 b2⟩
theorem xt_cmp {op : CmpOp} {f : D2} (ho : Opd X ct E (compareOp op) f) (ha : PEd X ct E a da) (hb : PEd X ct E b db) (hm : behindInMarks op b = false := by first | exact nobehind _ (by decide) (by decide) | rfl) : PTd X ct E (.Compare a [op] [b] pos) (dB (dOp f da db)) := by
  obtain ⟨r, h1, h2⟩ := ho
  obtain ⟨ta, a1, a2⟩ := ha
  obtain ⟨tb, b1, b2⟩ := hb
  exact ⟨_, pt_cmpR h1 a1 b1 hm, snd_B (snd_op h2 a2 b2)⟩
def dChain (f g : D2) (a b c : DE) : DE := fun es h => (a es h).bind fun x h1 => (b es h1).bind fun y h2 => (f x y h2).bind fun z h3 => match z with
  | .bl k => if k = true then (c es h3).bind fun w h4 => g y w h4 else .ok (.bl false) h3
  | _ => .no
theorem Snd2.bind {r : R2} {f : D2} {E : XK} (h : Snd2 G E r f) {ρ : Rho} {H : Hp} {eh : EH} (hr : HR G ρ H eh) {x y : EV} {a b : V} (hx : VR G.K ρ H x a) (hy : VR G.K ρ H y b)
    {γ δ : Type} {R2' : Rho → Hp → γ → δ → Prop} {k : EV → EH → Res γ} {Q2 : δ → Hp → Prop} (hw : wr G R2' ρ H ((f x y eh).bind k) Q2 E) {Kt : V → Hp → Prop}
    (hk : ∀ ρ1 H1 v eh1 u, Ext G.K ρ ρ1 H H1 → HR G ρ1 H1 eh1 → VR G.K ρ1 H1 v u → wr G R2' ρ1 H1 (k v eh1) Q2 E → Kt u H1) : r a b H Kt := by
  refine h ρ H eh x y a b Kt hr hx hy ?_
  cases q : f x y eh with
  | ok v h' =>
    rw [q] at hw
    exact fun ρ' H' u e hr' rv => hk ρ' H' v h' u e hr' rv (hw.mono e)
  | er z h' =>
    rw [q] at hw
    exact hw
  | no =>
    rw [q] at hw
    exact hw
theorem snd_chain {r r' : R2} {f g : D2} {ta tb tc : TE} (hf : Snd2 G E r f) (hg : Snd2 G E r' g) (ha : SndE G E ta da) (hb : SndE G E tb db) (hc : SndE G E tc dc) : SndE G E (tChain r r' ta tb tc) (dChain f g da db dc) := fun ρ σ H es eh Q rel h => by
  refine ha.bind rel h fun ρ1 H1 x eh1 u e1 rel1 v1 h1 => ?_
  refine hb.bind rel1 h1 fun ρ2 H2 y eh2 w e2 rel2 v2 h2 => ?_
  refine hf.bind rel2.hr (v1.mono e2) v2 h2 fun ρ3 H3 z eh3 zz e3 hr3 v3 h3 => ?_
  cases z with
  | bl k =>
    refine ⟨k, vr_bl.mp v3, ?_⟩
    cases k with
    | true =>
      refine iteT (hc.bind (rel2.ext e3 hr3) h3 fun ρ4 H4 q eh4 qq e4 rel4 v4 h4 => ?_)
      exact hg ρ4 H4 eh4 y q w qq Q rel4.hr ((v2.mono e3).mono e4) v4 h4
    | false => exact iteF (h3 ρ3 H3 _ (Ext.refl _ _ _) hr3 (vr_bl.mpr rfl))
  | _ => exact h3.elim
theorem xe_chain {op op' : CmpOp} {f g : D2} (ho : Opd X ct E (compareOp op) f) (ho' : Opd X ct E (compareOp op') g) (ha : PEd X ct E a da) (hb : PEd X ct E b db) (hc : PEd X ct E c dc)
    (hm : lastMarks [op, op'] [b, c] = false := by with_unfolding_all rfl) : PEd X ct E (.Compare a [op, op'] [b, c] pos) (dChain f g da db dc) := by
  obtain ⟨r, h1, h2⟩ := ho
  obtain ⟨r', h1', h2'⟩ := ho'
  obtain ⟨ta, a1, a2⟩ := ha
  obtain ⟨tb, b1, b2⟩ := hb
  obtain ⟨tc, c1, c2⟩ := hc
  exact ⟨_, pe_chain h1 h1' a1 b1 c1 hm, snd_chain h2 h2' a2 b2 c2⟩
theorem xa_cons (ha : PEd X ct E e da) (hr : PAd X ct E es dr) (hs : starEach (e :: es) X.env = (false, eval e X.env) :: starEach es X.env := by rfl) : PAd X ct E (e :: es) (dCons da dr) := by
  obtain ⟨ta, a1, a2⟩ := ha
  obtain ⟨tr, r1, r2⟩ := hr
  exact ⟨_, pa_cons a1 r1 hs, snd_cons a2 r2⟩
theorem xe_callB {x : Str} {p : Pos} {id : String} {f : DL} (hc : Cld X ct E (.builtin id) f) (hg : Gl X x) (hm : X.mg x = none) (hv : bootBuiltins x = some (.builtin id)) (ha : PAd X ct E (e :: es) dr) (hn : x ≠ "__name__" := by decide) (hdb : (x == ("__debug__" : Str)) = false := by decide)
    (he : starEach (e :: es) X.env = (false, eval e X.env) :: starEach es X.env := by rfl) (hpl : (backTo pos (starEach es X.env)).any (·.1) = false := by rfl) : PEd X ct E (.Call (.Name x p) (e :: es) [] pos) (dCB f dr) := by
  obtain ⟨r, h1, h2⟩ := hc
  obtain ⟨ta, a1, a2⟩ := ha
  exact ⟨_, pe_callB h1 hg hm hv a1 hn hdb he hpl, snd_cb h2 a2⟩
theorem xe_callTy {x : Str} {p : Pos} {T : String} {f : DL} (hc : Cld X ct E (.type T) f) (hg : Gl X x) (hm : X.mg x = none) (hv : bootBuiltins x = some (.type T)) (ha : PAd X ct E (e :: es) dr) (hn : x ≠ "__name__" := by decide) (hdb : (x == ("__debug__" : Str)) = false := by decide)
    (he : starEach (e :: es) X.env = (false, eval e X.env) :: starEach es X.env := by rfl) (hpl : (backTo pos (starEach es X.env)).any (·.1) = false := by rfl) : PEd X ct E (.Call (.Name x p) (e :: es) [] pos) (dCB f dr) := by
  obtain ⟨r, h1, h2⟩ := hc
  obtain ⟨ta, a1, a2⟩ := ha
  exact ⟨_, pe_callTy h1 hg hm hv a1 hn hdb he hpl, snd_cb h2 a2⟩
end
inductive Ty where
  | none_ | bool_ | int_ | str_ | list_ | tuple_ | dict_
  deriving DecidableEq
def Ty.nm : Ty → String
  | .none_ => "NoneType" | .bool_ => "bool" | .int_ => "int" | .str_ => "str" | .list_ => "list" | .tuple_ => "tuple" | .dict_ => "dict"
def Ty.isa : Ty → Ty → Bool
  | .bool_, .int_ => true
  | a, b => decide (a = b)
theorem kit_all {K : Fg} : ∀ t c : Ty, PySem.W.kitOne K (.type t.nm) (.type c.nm) = some (t.isa c) := fun t c => kit_ty (by cases t <;> cases c <;> decide +kernel)
def tyOf (h : EH) : EV → Option Ty
  | .non => some .none_
  | .bl _ => some .bool_
  | .int _ => some .int_
  | .str _ => some .str_
  | .tup _ => some .tuple_
  | .ty _ => none
  | .exc _ _ _ _ => none
  | .ref n => match h[n]? with
    | some (.lst _) => some .list_
    | some (.ro _) => some .list_
    | some (.dic _ _) => some .dict_
    | _ => none
theorem tyOf_tx {G : Gx} {ρ : Rho} {H : Hp} {eh : EH} (hr : HR G ρ H eh) {x : EV} {v : V} {t : Ty} (hx : VR G.K ρ H x v) (h : tyOf eh x = some t) : TyX G.K H v (.type t.nm) := by
  cases x with
  | non => rw [vr_non.mp hx]; cases h; exact .base .non
  | bl b => rw [vr_bl.mp hx]; cases h; exact .base (.bl b)
  | int b => rw [vr_int.mp hx]; cases h; exact .base (.int b)
  | str b => rw [vr_str.mp hx]; cases h; exact .base (.str b)
  | tup xs =>
    obtain ⟨a, vs, rfl, e2, e3⟩ := vr_tup.mp hx
    cases h
    exact .base (.tup e2)
  | ty n => cases h
  | exc _ _ _ _ => cases h
  | ref n =>
    obtain ⟨a, ha, rfl⟩ := vr_ref.mp hx
    simp only [tyOf] at h
    split at h
    · rename_i xs e
      cases h
      obtain ⟨a', ha', vs, h2, _⟩ := hr.obj n _ e
      rw [adr_of ha'] at ha; cases ha
      exact .base (.lst h2)
    · rename_i xs e
      cases h
      obtain ⟨a', ha', vs, h2, _⟩ := hr.obj n _ e
      rw [adr_of ha'] at ha; cases ha
      rcases h2 with ⟨o, h2⟩ | ⟨o, its, k, h2, h3, _⟩
      · exact .base (.frz h2)
      · exact .kList h2 h3
    · rename_i t0 xs e
      cases h
      obtain ⟨a', ha', h2⟩ := hr.obj n _ e
      rw [adr_of ha'] at ha; cases ha
      obtain ⟨u, h2, h3⟩ := h2
      cases t0 with
      | false =>
        obtain ⟨l, rfl, _⟩ := h3
        exact .base (.dK h2)
      | true =>
        obtain ⟨l, rfl, _⟩ := h3
        exact .base (.dT h2)
    · cases h
def fIsi (c : Ty) (d : DE) : DE := fun es h => (d es h).bind fun x h1 => match tyOf h1 x with
  | some t => .ok (.bl (t.isa c)) h1
  | none => .no
def fIsi2 (c c' : Ty) (d : DE) : DE := fun es h => (d es h).bind fun x h1 => match tyOf h1 x with
  | some t => .ok (.bl (t.isa c || t.isa c')) h1
  | none => .no
section
variable {X : Cx} {ct : Nat → Addr × List Str} {E : XK} {e : Expr} {pos p q : Pos} {d : DE}
theorem xe_isi (c : Ty) {y : Str} (hg : Gl X "isinstance") (hm : X.mg "isinstance" = none) (hgy : Gl X y) (hmy : X.mg y = none) (hvy : bootBuiltins y = some (.type c.nm)) (he : PEd X ct E e d) (hn : y ≠ "__name__" := by decide) (hdb : (y == ("__debug__" : Str)) = false := by decide)
    (hs1 : starEach [e, .Name y q] X.env = (false, eval e X.env) :: starEach [.Name y q] X.env := by rfl) (hs2 : starEach [.Name y q] X.env = (false, eval (.Name y q) X.env) :: starEach [] X.env := by rfl) (hpl : (backTo pos (starEach [.Name y q] X.env)).any (·.1) = false := by rfl) :
    PEd X ct E (.Call (.Name "isinstance" p) [e, .Name y q] [] pos) (fIsi c d) := by
  obtain ⟨t, h1, h2⟩ := he
  refine ⟨_, pe_callB call_isi hg hm (by decide +kernel) (pa_cons h1 (pa_cons (pe_bltn (v := .ty c.nm) hgy hmy hvy rfl hn hdb) pa_nil hs2) hs1) (by decide) (by decide) hs1 hpl, fun ρ σ H es eh Q rel h => ?_⟩
  refine h2.bind rel h fun ρ1 H1 x eh1 u e1 rel1 v1 h1 => ?_
  split at h1
  · rename_i t ht
    exact ⟨u, .ty c.nm, _, _, t.isa c, rfl, .ty _, tyOf_tx rel1.hr v1 ht, kit_all t c, h1 ρ1 H1 _ (Ext.refl _ _ _) rel1.hr (vr_bl.mpr rfl)⟩
  · exact h1.elim
theorem xe_isi2 (c c' : Ty) {y y' : Str} {k : Nat} {q' qt : Pos} (hg : Gl X "isinstance") (hm : X.mg "isinstance" = none) (hgy : Gl X y) (hmy : X.mg y = none) (hvy : bootBuiltins y = some (.type c.nm)) (hgy' : Gl X y') (hmy' : X.mg y' = none) (hvy' : bootBuiltins y' = some (.type c'.nm)) (he : PEd X ct E e d)
    (hn : y ≠ "__name__" := by decide) (hdb : (y == ("__debug__" : Str)) = false := by decide) (hn' : y' ≠ "__name__" := by decide) (hdb' : (y' == ("__debug__" : Str)) = false := by decide)
    (hs1 : starEach [e, .Tuple [.Name y q, .Name y' q'] k qt] X.env = (false, eval e X.env) :: starEach [.Tuple [.Name y q, .Name y' q'] k qt] X.env := by rfl) (hs2 : starEach [.Tuple [.Name y q, .Name y' q'] k qt] X.env = (false, eval (.Tuple [.Name y q, .Name y' q'] k qt) X.env) :: starEach [] X.env := by rfl)
    (hs3 : starEach [.Name y q, .Name y' q'] X.env = (false, eval (.Name y q) X.env) :: starEach [.Name y' q'] X.env := by rfl) (hs4 : starEach [.Name y' q'] X.env = (false, eval (.Name y' q') X.env) :: starEach [] X.env := by rfl)
    (hpl : (backTo pos (starEach [.Tuple [.Name y q, .Name y' q'] k qt] X.env)).any (·.1) = false := by rfl) :
    PEd X ct E (.Call (.Name "isinstance" p) [e, .Tuple [.Name y q, .Name y' q'] k qt] [] pos) (fIsi2 c c' d) := by
  obtain ⟨t, h1, h2⟩ := he
  refine ⟨_, pe_callB call_isiT hg hm (by decide +kernel) (pa_cons h1 (pa_cons (pe_tup (pa_cons (pe_bltn (v := .ty c.nm) hgy hmy hvy rfl hn hdb) (pa_cons (pe_bltn (v := .ty c'.nm) hgy' hmy' hvy' rfl hn' hdb') pa_nil hs4) hs3)) pa_nil hs2) hs1) (by decide) (by decide) hs1 hpl, fun ρ σ H es eh Q rel h => ?_⟩
  refine h2.bind rel h fun ρ1 H1 x eh1 u e1 rel1 v1 h1 => ?_
  split at h1
  · rename_i t ht
    refine ⟨by show 2 ≤ sizeLine; decide, fun tp hp => ?_⟩
    have hr2 := rel1.hr.side (HO.tup [.ty c.nm, .ty c'.nm]) hp
    refine ⟨u, tp, [.ty c.nm, .ty c'.nm], _, [.type c.nm, .type c'.nm], t.isa c || t.isa c', rfl, upd_same, .cons (.ty _) (.cons (.ty _) .nil), tyOf_tx hr2 (v1.mono (Ext.side _ hp)) ht, ?_, h1 ρ1 _ _ (Ext.side _ hp) hr2 (vr_bl.mpr rfl)⟩
    refine kitAny_cons (kit_all t c) (fun hb => ?_) (fun hb => by rw [hb]; rfl)
    rw [hb, Bool.false_or]
    exact kitAny_cons (kit_all t c') (fun hb2 => by rw [hb2]; rfl) (fun hb2 => hb2)
  · exact h1.elim
end
end EE
set_option Elab.async false
set_option linter.all false
set_option maxRecDepth 100000
set_option maxHeartbeats 1000000
namespace EE
open PySem PySem.Spec PyProof.Rows L2
def dNext : DS := fun es h => .ok (.nx es) h
def dSeq (a b : DS) : DS := fun es h => (a es h).bind fun f h1 => match f with
  | .nx es1 => b es1 h1
  | .rt v => .ok (.rt v) h1
  | .bk e => .ok (.bk e) h1
  | .ct e => .ok (.ct e) h1
def dIfS (t : DT) (a b : DS) : DS := fun es h => (t es h).bind fun c h1 => if c = true then a es h1 else b es h1
def dRet (a : DE) : DS := fun es h => (a es h).bind fun x h1 => .ok (.rt x) h1
def dRetN : DS := fun _ h => .ok (.rt .non) h
def dDrop (a : DE) : DS := fun es h => (a es h).bind fun _ h1 => .ok (.nx es) h1
def dNever : DS := fun _ _ => .no
def dBreak : DS := fun es h => .ok (.bk es) h
def dCont : DS := fun es h => .ok (.ct es) h
abbrev DG := EV → ES → EH → Res ES
abbrev DGs := List EV → ES → EH → Res ES
abbrev DSet := EV → EV → EV → EH → Res Unit
def dName (i : Nat) : DG := fun x es h => .ok (es.set i (some x)) h
def dGNil : DGs := fun xs es h => match xs with
  | [] => .ok es h
  | _ => .no
def dGCons (g : DG) (r : DGs) : DGs := fun xs es h => match xs with
  | x :: xs => (g x es h).bind fun es1 h1 => r xs es1 h1
  | [] => .no
def dGTup (n : Nat) (r : DGs) : DG := fun x es h => match x with
  | .tup xs => if xs.length = n then r xs es h else .no
  | _ => .no
def dGSub (a b : DE) (f : DSet) : DG := fun x es h => (a es h).bind fun o h1 => (b es h1).bind fun i h2 => (f o i x h2).bind fun _ h3 => .ok es h3
def dAsg (a : DE) (g : DG) : DS := fun es h => (a es h).bind fun x h1 => (g x es h1).bind fun es1 h2 => .ok (.nx es1) h2
def dPar (i j : Nat) (a : DA) : DS := fun es h => (a es h).bind fun xs h1 => match xs with
  | [x, y] => .ok (.nx ((es.set i (some x)).set j (some y))) h1
  | _ => .no
def dAug (i : Nat) (a : DE) (f : D2) : DS := fun es h => match es[i]? with
  | some (some x) => (a es h).bind fun y h1 => (f x y h1).bind fun z h2 => .ok (.nx (es.set i (some z))) h2
  | _ => .no
abbrev RS (G : Gx) : Rho → Hp → ES → L2.St → Prop := fun ρ H es σ => SR G.K ρ H es σ
def SndG (G : Gx) (E : XK) (t : TG) (d : DG) : Prop := ∀ ρ σ H es eh x u Q, Rel G ρ σ H es eh → VR G.K ρ H x u → wr G (RS G) ρ H (d x es eh) Q E → t u σ H Q
def SndGs (G : Gx) (E : XK) (t : TGs) (d : DGs) : Prop := ∀ ρ σ H es eh x u Q, Rel G ρ σ H es eh → VRs G.K ρ H x u → wr G (RS G) ρ H (d x es eh) Q E → t u σ H Q
def SndSet (G : Gx) (E : XK) (t : TSet) (d : DSet) : Prop := ∀ ρ H eh o i x a b c Q, HR G ρ H eh → VR G.K ρ H o a → VR G.K ρ H i b → VR G.K ρ H x c → wr G (fun _ _ (_ : Unit) (_ : Unit) => True) ρ H (d o i x eh) (fun _ => Q) E → t a b c H Q
section
variable (X : Cx) (ct : Nat → Addr × List Str) (E : XK)
def PGd (e : Expr) (d : DG) : Prop := ∃ t, PG X e t ∧ SndG ⟨X.K, ct⟩ E t d
def PGsd (e : List Expr) (d : DGs) : Prop := ∃ t, PGs X e t ∧ SndGs ⟨X.K, ct⟩ E t d
def PSetd (d : DSet) : Prop := ∃ t, PSet X t ∧ SndSet ⟨X.K, ct⟩ E t d
end
section
variable {G : Gx} {E : XK}
theorem SndG.bind {t : TG} {d : DG} (h : SndG G E t d) {ρ : Rho} {σ : L2.St} {H : Hp} {es : ES} {eh : EH} (rel : Rel G ρ σ H es eh) {x : EV} {u : V} (hx : VR G.K ρ H x u)
    {γ δ : Type} {R2 : Rho → Hp → γ → δ → Prop} {k : ES → EH → Res γ} {Q2 : δ → Hp → Prop} (hw : wr G R2 ρ H ((d x es eh).bind k) Q2 E) {Kt : L2.St → Hp → Prop}
    (hk : ∀ ρ1 H1 es1 eh1 σ1, Ext G.K ρ ρ1 H H1 → Rel G ρ1 σ1 H1 es1 eh1 → d x es eh = .ok es1 eh1 → wr G R2 ρ1 H1 (k es1 eh1) Q2 E → Kt σ1 H1) : t u σ H Kt := by
  refine h ρ σ H es eh x u Kt rel hx ?_
  cases q : d x es eh with
  | ok v h' =>
    rw [q] at hw
    exact fun ρ' H' u e hr r => hk ρ' H' v h' u e ⟨r, hr⟩ q (hw.mono e)
  | er x h' =>
    rw [q] at hw
    exact hw
  | no =>
    rw [q] at hw
    exact hw
theorem SndGs.bind {t : TGs} {d : DGs} (h : SndGs G E t d) {ρ : Rho} {σ : L2.St} {H : Hp} {es : ES} {eh : EH} (rel : Rel G ρ σ H es eh) {x : List EV} {u : List V} (hx : VRs G.K ρ H x u)
    {γ δ : Type} {R2 : Rho → Hp → γ → δ → Prop} {k : ES → EH → Res γ} {Q2 : δ → Hp → Prop} (hw : wr G R2 ρ H ((d x es eh).bind k) Q2 E) {Kt : L2.St → Hp → Prop}
    (hk : ∀ ρ1 H1 es1 eh1 σ1, Ext G.K ρ ρ1 H H1 → Rel G ρ1 σ1 H1 es1 eh1 → wr G R2 ρ1 H1 (k es1 eh1) Q2 E → Kt σ1 H1) : t u σ H Kt := by
  refine h ρ σ H es eh x u Kt rel hx ?_
  cases q : d x es eh with
  | ok v h' =>
    rw [q] at hw
    exact fun ρ' H' u e hr r => hk ρ' H' v h' u e ⟨r, hr⟩ (hw.mono e)
  | er x h' =>
    rw [q] at hw
    exact hw
  | no =>
    rw [q] at hw
    exact hw
theorem SndS.bind {t : TS} {d : DS} (h : SndS G E t d) {ρ : Rho} {σ : L2.St} {H : Hp} {es : ES} {eh : EH} (rel : Rel G ρ σ H es eh)
    {γ δ : Type} {R2 : Rho → Hp → γ → δ → Prop} {k : Flw → EH → Res γ} {Q2 : δ → Hp → Prop} (hw : wr G R2 ρ H ((d es eh).bind k) Q2 E) {D : Ends}
    (hk : ∀ ρ1 H1 f eh1 vf, Ext G.K ρ ρ1 H H1 → HR G ρ1 H1 eh1 → RF G ρ1 H1 f vf → wr G R2 ρ1 H1 (k f eh1) Q2 E → qD D vf H1) : t D σ H := by
  refine h ρ σ H es eh D rel ?_
  cases q : d es eh with
  | ok v h' =>
    rw [q] at hw
    exact fun ρ' H' u e hr r => hk ρ' H' v h' u e hr r (hw.mono e)
  | er x h' =>
    rw [q] at hw
    exact hw
  | no =>
    rw [q] at hw
    exact hw
theorem snd_next : SndS G E tNext dNext := fun ρ σ H es eh D rel h => h ρ H (.nx σ) (Ext.refl _ _ _) rel.hr rel.sl
theorem snd_seq {t u : TS} {a b : DS} (ha : SndS G E t a) (hb : SndS G E u b) : SndS G E (tSeq t u) (dSeq a b) := fun ρ σ H es eh D rel h => by
  refine ha.bind rel h fun ρ1 H1 f eh1 vf e1 hr1 rf h1 => ?_
  cases f with
  | nx es1 =>
    cases vf with
    | nx σ1 => exact hb ρ1 σ1 H1 es1 eh1 D ⟨rf, hr1⟩ h1
    | _ => exact rf.elim
  | rt v =>
    cases vf with
    | rt w => exact h1 ρ1 H1 (.rt w) (Ext.refl _ _ _) hr1 rf
    | _ => exact rf.elim
  | bk v =>
    cases vf with
    | bk w => exact h1 ρ1 H1 (.bk w) (Ext.refl _ _ _) hr1 rf
    | _ => exact rf.elim
  | ct v =>
    cases vf with
    | ct w => exact h1 ρ1 H1 (.ct w) (Ext.refl _ _ _) hr1 rf
    | _ => exact rf.elim
theorem snd_ifS {tt : TT} {t u : TS} {c : DT} {a b : DS} (hc : SndT G E tt c) (ha : SndS G E t a) (hb : SndS G E u b) : SndS G E (tIfS tt t u) (dIfS c a b) := fun ρ σ H es eh D rel h => by
  refine hc.bind rel h fun ρ1 H1 x eh1 u e1 rel1 v1 h1 => ?_
  subst v1
  cases x with
  | true => exact iteT (ha ρ1 σ H1 es eh1 D rel1 h1)
  | false => exact iteF (hb ρ1 σ H1 es eh1 D rel1 h1)
theorem snd_ret {te : TE} {a : DE} (ha : SndE G E te a) : SndS G E (tRet te) (dRet a) := fun ρ σ H es eh D rel h => by
  refine ha.bind rel h fun ρ1 H1 x eh1 u e1 rel1 v1 h1 => ?_
  exact h1 ρ1 H1 (.rt u) (Ext.refl _ _ _) rel1.hr v1
theorem snd_retN : SndS G E tRetN dRetN := fun ρ σ H es eh D rel h => h ρ H (.rt .non) (Ext.refl _ _ _) rel.hr (show VR G.K ρ H .non .non from vr_non.mpr rfl)
theorem snd_drop {te : TE} {a : DE} (ha : SndE G E te a) : SndS G E (tDrop te) (dDrop a) := fun ρ σ H es eh D rel h => by
  refine ha.bind rel h fun ρ1 H1 x eh1 u e1 rel1 v1 h1 => ?_
  exact h1 ρ1 H1 (.nx σ) (Ext.refl _ _ _) rel1.hr rel1.sl
theorem snd_never : SndS G E tNever dNever := fun ρ σ H es eh D rel h => h
theorem snd_break : SndS G E tBreak dBreak := fun ρ σ H es eh D rel h => h ρ H (.bk σ) (Ext.refl _ _ _) rel.hr rel.sl
theorem snd_cont : SndS G E tCont dCont := fun ρ σ H es eh D rel h => h ρ H (.ct σ) (Ext.refl _ _ _) rel.hr rel.sl
theorem snd_gname {i : Nat} : SndG G E (gName i) (dName i) := fun ρ σ H es eh x u Q rel hx h => h ρ H _ (Ext.refl _ _ _) rel.hr (rel.sl.set i hx)
theorem snd_gnil : SndGs G E gNil dGNil := fun ρ σ H es eh x u Q rel hx h => by
  cases x with
  | nil => exact ⟨vrs_nil.mp hx, h ρ H _ (Ext.refl _ _ _) rel.hr rel.sl⟩
  | cons _ _ => exact h.elim
theorem snd_gcons {t : TG} {u : TGs} {d : DG} {ds : DGs} (h1 : SndG G E t d) (h2 : SndGs G E u ds) : SndGs G E (gCons t u) (dGCons d ds) := fun ρ σ H es eh x us Q rel hx h => by
  cases x with
  | nil => exact h.elim
  | cons x xs =>
    obtain ⟨v, r, rfl, v1, v2⟩ := vrs_cons.mp hx
    refine ⟨v, r, rfl, h1.bind rel v1 h fun ρ1 H1 es1 eh1 σ1 e1 rel1 _ hw => ?_⟩
    exact h2 ρ1 σ1 H1 es1 eh1 xs r Q rel1 (v2.mono e1) hw
theorem snd_gtup {n : Nat} {u : TGs} {ds : DGs} (h2 : SndGs G E u ds) : SndG G E (gTup G.K n u) (dGTup n ds) := fun ρ σ H es eh x us Q rel hx h => by
  cases x with
  | tup xs =>
    obtain ⟨a, vs, rfl, g2, g3⟩ := vr_tup.mp hx
    simp only [dGTup] at h
    split at h
    · rename_i hl
      exact ⟨a, vs, rfl, SqT.of g2, by rw [← g3.length]; exact hl, h2 ρ σ H es eh xs vs Q rel g3 h⟩
    · exact h.elim
  | _ => exact h.elim
theorem snd_gsub {to ti : TE} {t : TSet} {a b : DE} {f : DSet} (ha : SndE G E to a) (hb : SndE G E ti b) (hf : SndSet G E t f) : SndG G E (gSub to ti t) (dGSub a b f) := fun ρ σ H es eh x u Q rel hx h => by
  refine ha.bind rel h fun ρ1 H1 o eh1 w e1 rel1 v1 h1 => ?_
  refine hb.bind rel1 h1 fun ρ2 H2 i eh2 w2 e2 rel2 v2 h2 => ?_
  refine hf ρ2 H2 eh2 o i x w w2 u _ rel2.hr (v1.mono e2) v2 ((hx.mono e1).mono e2) ?_
  cases q : f o i x eh2 with
  | ok v h' =>
    rw [q] at h2
    exact fun ρ' H' u e hr r => h2 ρ' H' σ e hr (rel2.sl.mono e)
  | er z h' =>
    rw [q] at h2
    exact h2
  | no =>
    rw [q] at h2
    exact h2
theorem snd_asg {te : TE} {g : TG} {a : DE} {d : DG} (ha : SndE G E te a) (hg : SndG G E g d) : SndS G E (tAsg te g) (dAsg a d) := fun ρ σ H es eh D rel h => by
  refine ha.bind rel h fun ρ1 H1 x eh1 u e1 rel1 v1 h1 => ?_
  refine hg.bind rel1 v1 h1 fun ρ2 H2 es2 eh2 σ2 e2 rel2 _ h2 => ?_
  exact h2 ρ2 H2 (.nx σ2) (Ext.refl _ _ _) rel2.hr rel2.sl
theorem snd_par {i j : Nat} {ta : TA} {a : DA} (ha : SndA G E ta a) : SndS G E (tPar i j ta) (dPar i j a) := fun ρ σ H es eh D rel h => by
  refine ha.bind rel h fun ρ1 H1 x eh1 u e1 rel1 v1 h1 => ?_
  split at h1
  · rename_i x y
    obtain ⟨v, w, rfl, q1, q2⟩ := vrs_two v1
    exact ⟨v, w, rfl, h1 ρ1 H1 (.nx _) (Ext.refl _ _ _) rel1.hr ((rel1.sl.set i q1).set j q2)⟩
  · exact h1.elim
theorem snd_aug {i : Nat} {te : TE} {ti : TIp} {a : DE} {f : D2} (ha : SndE G E te a) (hf : Snd2 G E ti f) : SndS G E (tAug i te ti) (dAug i a f) := fun ρ σ H es eh D rel h => by
  unfold dAug at h
  split at h
  · rename_i x hx
    obtain ⟨u, h1, h2⟩ := rel.sl.2 i x hx
    refine ⟨u, h1, ha.bind rel h fun ρ1 H1 y eh1 w e1 rel1 v1 h1 => ?_⟩
    refine hf.bind rel1.hr (h2.mono e1) v1 h1 fun ρ2 H2 z eh2 zz e2 hr2 v2 h3 => ?_
    exact h3 ρ2 H2 (.nx _) (Ext.refl _ _ _) hr2 ((rel1.sl.mono e2).set i v2)
  · exact h.elim
end
def sLst : DSet := fun o i x h => match o, i with
  | .ref n, .int k => match mutAt h n with
    | some xs => match ixN xs.length k with
      | some j => .ok () (h.set n (.lst (xs.set j x)))
      | none => .no
    | none => .no
  | _, _ => .no
section
variable {X : Cx} {ct : Nat → Addr × List Str} {E : XK} {G : Gx}
theorem put_lst {ρ : Rho} {H : Hp} {eh : EH} {n : Nat} {a : Addr} {vs us : List V} {ys : List EV} (hr : HR G ρ H eh) (hn : ρ[n]? = some (true, a)) (ha : H a = some (.lst vs)) (hy : VRs G.K ρ H ys us) :
    Ext G.K ρ ρ H (upd H a (.lst us)) ∧ HR G ρ (upd H a (.lst us)) (eh.set n (.lst ys)) := by
  have e : Ext G.K ρ ρ H (upd H a (.lst us)) := Ext.write _ hn ha (fun _ z => by cases z) (fun _ _ z => by cases z) pln_lst
  exact ⟨e, hr.write hn rfl e ⟨us, upd_same, hy.mono e⟩⟩
theorem set_lst : PSetd X ct E sLst := ⟨_, set_list, fun ρ H eh o i x a b c Q hr ho hi hx h => by
  unfold sLst at h
  split at h
  · rename_i n k
    split at h
    · rename_i xs e1
      split at h
      · rename_i j e2
        obtain ⟨a1, vs, g1, g2, g3, g4⟩ := mut_of hr e1
        obtain ⟨a', q1, rfl⟩ := vr_ref.mp ho
        rw [g1] at q1; cases q1
        obtain ⟨e, hr'⟩ := put_lst hr g4 g2 (g3.set hx j)
        exact ⟨a1, vs, k, j, rfl, vr_int.mp hi, g2, by rw [← g3.length]; exact e2, h ρ _ () e hr' trivial⟩
      · exact h.elim
    · exact h.elim
  · exact h.elim⟩
theorem PSetd.or {d d' : DSet} (h : PSetd X ct E d) (h' : PSetd X ct E d') : PSetd X ct E (fun o i x h => (d o i x h).orElse fun _ => d' o i x h) := by
  obtain ⟨r, h1, h2⟩ := h
  obtain ⟨r', h1', h2'⟩ := h'
  refine ⟨fun o i v H Q => r o i v H Q ∨ r' o i v H Q, ?_, fun ρ H eh o i x a b c Q hr ho hi hx h => ?_⟩
  · intro pins s σ H o i v ov iv u Q I ro ri rv q
    rcases q with q | q
    · exact h1 pins s σ H o i v ov iv u Q I ro ri rv q
    · exact h1' pins s σ H o i v ov iv u Q I ro ri rv q
  · rcases wr_or h with h | h
    · exact .inl (h2 ρ H eh o i x a b c Q hr ho hi hx h)
    · exact .inr (h2' ρ H eh o i x a b c Q hr ho hi hx h)
def mApp : EV → DL := fun x xs h => match x, xs with
  | .ref n, [y] => match mutAt h n with
    | some ys => if ys.length < 100000 then .ok .non (h.set n (.lst (ys ++ [y]))) else .no
    | none => .no
  | _, _ => .no
theorem m_app : Mtd X ct E "list.append" mApp := ⟨_, mt_append, fun ρ H eh x a xs as Q hr hx hxs h => by
  unfold mApp at h
  split at h
  · rename_i n y
    split at h
    · rename_i ys e1
      split at h
      · rename_i hl
        obtain ⟨a1, vs, g1, g2, g3, g4⟩ := mut_of hr e1
        obtain ⟨a', q1, rfl⟩ := vr_ref.mp hx
        rw [g1] at q1; cases q1
        obtain ⟨v, rfl, hv⟩ := vrs_one hxs
        obtain ⟨e, hr'⟩ := put_lst hr g4 g2 (g3.append (VRs.one hv))
        exact ⟨a1, vs, v, rfl, rfl, g2, by rw [← g3.length]; exact Nat.lt_of_lt_of_le hl (by decide), h ρ _ _ e hr' (vr_non.mpr rfl)⟩
      · exact h.elim
    · exact h.elim
  · exact h.elim⟩
def dBM (f : EV → DL) (o : DE) (a : DA) : DE := fun es h => (o es h).bind fun x h1 => match x with
  | .ref n => match lstAt h1 n with
    | some _ => (a es h1).bind fun xs h2 => f x xs h2
    | none => .no
  | _ => .no
theorem snd_bmL {r : V → List V → Hp → VK → Prop} {f : EV → DL} {to : TE} {ta : TA} {o : DE} {a : DA} (hr : SndM G E r f) (ho : SndE G E to o) (ha : SndA G E ta a) : SndE G E (tBM G.K "list" r to ta) (dBM f o a) := fun ρ σ H es eh Q rel h => by
  refine ho.bind rel h fun ρ1 H1 x eh1 u e1 rel1 v1 h1 => ?_
  cases x with
  | ref n =>
    simp only at h1
    split at h1
    · rename_i ys e2
      obtain ⟨a1, vs, g1, g2, g3⟩ := lst_of rel1.hr e2
      obtain ⟨a', q1, rfl⟩ := vr_ref.mp v1
      rw [g1] at q1; cases q1
      refine ⟨.inl ⟨rfl, vs, g2⟩, ha.bind rel1 h1 fun ρ2 H2 xs eh2 us e2 rel2 v2 h2 => ?_⟩
      exact hr ρ2 H2 eh2 _ _ xs us Q rel2.hr (v1.mono e2) v2 h2
    · exact h1.elim
  | _ => exact h1.elim
variable {a b c e : Expr} {es rest : List Expr} {pos : Pos} {da db dc : DE} {dt du : DT} {dr : DA} {ds ds' : DS} {st : Stmt} {sts sts' : List Stmt}
theorem xss_nil : PSsd X ct E [] dNext := ⟨_, pss_nil, snd_next⟩
theorem xss_cons (h1 : PSd X ct E st ds) (h2 : PSsd X ct E sts ds') : PSsd X ct E (st :: sts) (dSeq ds ds') := by
  obtain ⟨t, a1, a2⟩ := h1
  obtain ⟨u, b1, b2⟩ := h2
  exact ⟨_, pss_cons a1 b1, snd_seq a2 b2⟩
theorem xss_one (h1 : PSd X ct E st ds) : PSsd X ct E [st] ds := by
  obtain ⟨t, a1, a2⟩ := h1
  exact ⟨_, pss_one a1, a2⟩
theorem xs_pass : PSd X ct E (.Pass pos) dNext := ⟨_, ps_pass, snd_next⟩
theorem xs_break : PSd X ct E (.Break pos) dBreak := ⟨_, ps_break, snd_break⟩
theorem xs_cont : PSd X ct E (.Continue pos) dCont := ⟨_, ps_continue, snd_cont⟩
theorem xs_never : PSd X ct E st dNever := ⟨_, ps_never, snd_never⟩
theorem xss_never : PSsd X ct E sts dNever := ⟨_, pss_never, snd_never⟩
theorem xs_expr (he : PEd X ct E e da) (hs : swapsWith e none pos.line X.env = pure false := by rfl) : PSd X ct E (.Expr e pos) (dDrop da) := by
  obtain ⟨t, a1, a2⟩ := he
  exact ⟨_, ps_expr a1 hs, snd_drop a2⟩
theorem xs_ret (he : PEd X ct E e da) : PSd X ct E (.Return (some e) pos) (dRet da) := by
  obtain ⟨t, a1, a2⟩ := he
  exact ⟨_, ps_ret a1, snd_ret a2⟩
theorem xs_retN : PSd X ct E (.Return none pos) dRetN := ⟨_, ps_retN, snd_retN⟩
theorem xs_if (hc : PTd X ct E c dt) (ha : PSsd X ct E sts ds) (hb : PSsd X ct E sts' ds') : PSd X ct E (.If c sts sts' pos) (dIfS dt ds ds') := by
  obtain ⟨t, a1, a2⟩ := hc
  obtain ⟨u, b1, b2⟩ := ha
  obtain ⟨w, c1, c2⟩ := hb
  exact ⟨_, ps_if a1 b1 c1, snd_ifS a2 b2 c2⟩
theorem xg_name (i : Nat) {x : Str} (hN : X.N.Nodup) (hi : X.N[i]? = some x := by rfl) (hx : Loc X.env.scope x := by first | exact Or.inl rfl | exact Or.inr rfl) (hf : X.fn x = true ∨ X.env.scope.names.lookup x = some .local := by first | exact .inl rfl | exact .inr rfl | assumption) : PGd X ct E (.Name x pos) (dName i) :=
  ⟨_, pg_name hN hi hx hf, snd_gname⟩
theorem xgs_nil : PGsd X ct E [] dGNil := ⟨_, pgs_nil, snd_gnil⟩
theorem xgs_cons {d : DG} {d' : DGs} (h1 : PGd X ct E e d) (h2 : PGsd X ct E es d') (hs : (assignEach (e :: es) X.env).map (·.2) = assign e X.env :: (assignEach es X.env).map (·.2) := by rfl) : PGsd X ct E (e :: es) (dGCons d d') := by
  obtain ⟨t, a1, a2⟩ := h1
  obtain ⟨u, b1, b2⟩ := h2
  exact ⟨_, pgs_cons a1 b1 hs, snd_gcons a2 b2⟩
theorem xg_tup {k n : Nat} {d' : DGs} (hc : X.calm = true) (h : PGsd X ct E es d') (hn : (assignEach es X.env).length = n := by rfl) (hst : (assignEach es X.env).findIdx? (·.1) = none := by rfl) : PGd X ct E (.Tuple es k pos) (dGTup n d') := by
  obtain ⟨t, a1, a2⟩ := h
  exact ⟨_, pg_tup hc a1 hn hst, snd_gtup a2⟩
theorem xg_sub {f : DSet} (ha : PEd X ct E a da) (hb : PEd X ct E b db) (hf : PSetd X ct E f) (hh : ∀ v, assign (.Subscript a b pos) X.env v = (do
      let ov ← holding [v] (eval a X.env)
      let iv ← holding [v, ov] (eval b X.env)
      standAt pos
      holding [v, ov, iv] (setItem ov iv v)
      release [v, ov, iv] []) := by intro _; rfl) : PGd X ct E (.Subscript a b pos) (dGSub da db f) := by
  obtain ⟨t, a1, a2⟩ := ha
  obtain ⟨u, b1, b2⟩ := hb
  obtain ⟨w, c1, c2⟩ := hf
  exact ⟨_, pg_sub a1 b1 c1 hh, snd_gsub a2 b2 c2⟩
theorem xs_asg {tg : Expr} {d : DG} (he : PEd X ct E e da) (hg : PGd X ct E tg d) (hs : swapsWithSole [tg] e pos.line X.env = pure false := by rfl) (hw : swappedStores [tg] e X.env = pure none := by rfl)
    (h1 : (assignEach [tg] X.env).map (·.2) = [assign tg X.env] := by rfl) : PSd X ct E (.Assign [tg] e pos) (dAsg da d) := by
  obtain ⟨t, a1, a2⟩ := he
  obtain ⟨u, b1, b2⟩ := hg
  exact ⟨_, ps_asg a1 b1 hs hw h1, snd_asg a2 b2⟩
theorem xs_set (i : Nat) {x : Str} {pos' : Pos} (hN : X.N.Nodup) (he : PEd X ct E e da) (hi : X.N[i]? = some x := by rfl) (hx : Loc X.env.scope x := by first | exact Or.inl rfl | exact Or.inr rfl) (hs : swapsWith e (some (.Name x pos')) pos.line X.env = pure false := by rfl)
    (hf : X.fn x = true ∨ X.env.scope.names.lookup x = some .local := by first | exact .inl rfl | exact .inr rfl | assumption) : PSd X ct E (.Assign [.Name x pos'] e pos) (dAsg da (dName i)) := by
  obtain ⟨t, a1, a2⟩ := he
  exact ⟨_, ps_set hN hi hx a1 hs hf, snd_asg a2 snd_gname⟩
theorem xs_par (i j : Nat) {x y : Str} {px py pt : Pos} {kt k2 pt2} (hc : X.calm = true) (hN : X.N.Nodup) (ha : PAd X ct E [a, b] dr) (hw : swappedStores [.Tuple [.Name x px, .Name y py] kt pt] (.Tuple [a, b] k2 pt2) X.env = pure (some [x, y]))
    (hi : X.N[i]? = some x := by rfl) (hj : X.N[j]? = some y := by rfl) (hij : i ≠ j := by decide) (hx : X.env.scope.names.lookup x = some .local := by rfl) (hy : X.env.scope.names.lookup y = some .local := by rfl)
    (hs : swapsWithSole [.Tuple [.Name x px, .Name y py] kt pt] (.Tuple [a, b] k2 pt2) pos.line X.env = pure false := by rfl) : PSd X ct E (.Assign [.Tuple [.Name x px, .Name y py] kt pt] (.Tuple [a, b] k2 pt2) pos) (dPar i j dr) := by
  obtain ⟨t, a1, a2⟩ := ha
  exact ⟨_, ps_par hc hN hi hj hij hx hy a1 hw hs, snd_par a2⟩
theorem xs_aug (i : Nat) {x : Str} {op : Operator} {f : D2} {pos' : Pos} (hN : X.N.Nodup) (he : PEd X ct E e da) (ho : Opd X ct E (inplaceOp op) f) (hi : X.N[i]? = some x := by rfl) (hx : Loc X.env.scope x := by first | exact Or.inl rfl | exact Or.inr rfl)
    (hf : X.fn x = true ∨ X.env.scope.names.lookup x = some .local := by first | exact .inl rfl | exact .inr rfl | assumption) : PSd X ct E (.AugAssign (.Name x pos') op e pos) (dAug i da f) := by
  obtain ⟨t, a1, a2⟩ := he
  obtain ⟨r, b1, b2⟩ := ho
  exact ⟨_, ps_aug hN hi hx a1 b1 hf, snd_aug a2 b2⟩
theorem o_iadd : Opd X ct E (inplaceOp .Add) fAddI := ⟨_, iop_add, snd_I0 fun _ _ _ _ => vr_int.mpr rfl⟩
theorem o_isub : Opd X ct E (inplaceOp .Sub) fSub := ⟨_, iop_sub, snd_I0 fun _ _ _ _ => vr_int.mpr rfl⟩
theorem xe_bmL {name : Str} {apos cpos : Pos} {id : String} {f : EV → DL} (pa : PlainAttrs "list") (slot : Slot "list" name id) (hty : typeOf (.builtin id) = pure (.type "method_descriptor")) (hm : Mtd X ct E id f) (ho : PEd X ct E a da) (ha : PAd X ct E (e :: es) dr)
    (hbase : attributeBase a name X.env (eval a X.env) = eval a X.env := by rfl)
    (hfew : ((backTo cpos (starEach (e :: es) X.env)).all (fun x => !x.1) && (backToKw cpos (keywordEach [] X.env)).all (fun x => x.1.isSome)
      && decide ((e :: es).length + ([] : List Keyword).length + (if ([] : List Keyword).isEmpty then 0 else 1) < 30)) = true := by rfl)
    (hline : (apos.endLine == cpos.line) = true := by rfl) (hs : starEach (e :: es) X.env = (false, eval e X.env) :: starEach es X.env := by rfl) (hplain : (backTo cpos (starEach es X.env)).any (·.1) = false := by rfl) :
    PEd X ct E (.Call (.Attribute a name apos) (e :: es) [] cpos) (dBM f da dr) := by
  obtain ⟨r, m1, m2⟩ := hm
  obtain ⟨t, a1, a2⟩ := ho
  obtain ⟨u, b1, b2⟩ := ha
  exact ⟨_, pe_bm pa slot hty m1 a1 b1 hbase hfew hline hs hplain, snd_bmL m2 a2 b2⟩
theorem xe_append {apos cpos : Pos} (ho : PEd X ct E a da) (ha : PAd X ct E [e] dr)
    (hbase : attributeBase a "append" X.env (eval a X.env) = eval a X.env := by rfl)
    (hfew : ((backTo cpos (starEach [e] X.env)).all (fun x => !x.1) && (backToKw cpos (keywordEach [] X.env)).all (fun x => x.1.isSome)
      && decide ([e].length + ([] : List Keyword).length + (if ([] : List Keyword).isEmpty then 0 else 1) < 30)) = true := by rfl)
    (hline : (apos.endLine == cpos.line) = true := by rfl) (hs : starEach [e] X.env = (false, eval e X.env) :: starEach [] X.env := by rfl) (hplain : (backTo cpos (starEach [] X.env)).any (·.1) = false := by rfl) :
    PEd X ct E (.Call (.Attribute a "append" apos) [e] [] cpos) (dBM mApp da dr) := xe_bmL PySem.F.plainAttrs_list PySem.F.slot_list_append PySem.F.type_list_append m_app ho ha hbase hfew hline hs hplain
end
structure Wlk where
  src : Option Nat
  xs : List EV
  tl : Nat → EV → EV
def Wlk.cur (it : Wlk) (h : EH) : Option (List EV) := match it.src with
  | none => some it.xs
  | some n => lstAt h n
def JR (G : Gx) (ρ0 : Rho) (H0 : Hp) (it : Wlk) (J : It) : Prop := ∀ ρ H eh xs, Ext G.K ρ0 ρ H0 H → HR G ρ H eh → it.cur eh = some xs →
  (∀ (i : Nat) (x : EV), xs[i]? = some x → J.go i H ∧ ∀ y H', J.yld i H y H' → Ext G.K ρ ρ H H' ∧ HR G ρ H' eh ∧ VR G.K ρ H' (it.tl i x) y) ∧ (∀ (i : Nat), xs[i]? = none → J.stop i H)
abbrev DI := ES → EH → Res Wlk
abbrev SndI (G : Gx) (E : XK) (t : TI) (d : DI) : Prop := Sound G E (JR G) t d
def forGo (it : Wlk) (g : DG) (b : DS) : Nat → Nat → DS
  | 0, _, _, _ => .no
  | m + 1, i, es, h => match it.cur h with
    | none => .no
    | some xs => match xs[i]? with
      | none => .ok (.nx es) h
      | some x => (g (it.tl i x) es h).bind fun es1 h1 => (b es1 h1).bind fun f h2 => match f with
        | .nx es2 => forGo it g b m (i + 1) es2 h2
        | .ct es2 => forGo it g b m (i + 1) es2 h2
        | .bk es2 => .ok (.nx es2) h2
        | .rt v => .ok (.rt v) h2
def dFor (di : DI) (g : DG) (b : DS) : DS := fun es h => (di es h).bind fun it h1 => match it.cur h1 with
  | none => .no
  | some xs => forGo it g b (xs.length + 1) 0 es h1
def dItL (a : DE) : DI := fun es h => (a es h).bind fun x h1 => match x with
  | .ref n => match lstAt h1 n with
    | some _ => .ok ⟨some n, [], fun _ x => x⟩ h1
    | none => .no
  | _ => .no
def dItT (a : DE) : DI := fun es h => (a es h).bind fun x h1 => match x with
  | .tup xs => .ok ⟨none, xs, fun _ x => x⟩ h1
  | _ => .no
def rng (lo : Int) (n : Nat) : List EV := (List.range n).map fun (i : Nat) => .int (lo + i)
def dItR1 (a : DA) : DI := fun es h => (a es h).bind fun xs h1 => match xs with
  | [.int n] => if decide (-100000 ≤ n) && decide (n ≤ 100000) = true then .ok ⟨none, rng 0 n.toNat, fun _ x => x⟩ h1 else .no
  | _ => .no
def dItR2 (a : DA) : DI := fun es h => (a es h).bind fun xs h1 => match xs with
  | [.int lo, .int n] => if decide (-100000 ≤ n) && decide (n ≤ 100000) && decide (-100000 ≤ lo) && decide (lo ≤ 100000) = true then .ok ⟨none, rng lo (n - lo).toNat, fun _ x => x⟩ h1 else .no
  | _ => .no
section
variable {X : Cx} {ct : Nat → Addr × List Str} {E : XK} {G : Gx}
theorem jr_lst {ρ : Rho} {H : Hp} {n : Nat} {a : Addr} (h : adr ρ n = some a) : JR G ρ H ⟨some n, [], fun _ x => x⟩ (Itl G.K a) := fun ρ' H' eh xs e hr hc => by
  obtain ⟨a', vs, g1, g2, g3⟩ := lst_of hr (show lstAt eh n = some xs from hc)
  rw [e.get h] at g1; cases g1
  refine ⟨fun i x hx => ?_, fun i hx => ⟨vs, g2, ?_⟩⟩
  · obtain ⟨v, h1, h2⟩ := g3.get hx
    refine ⟨⟨vs, v, g2, h1⟩, fun y H2 hy => ?_⟩
    obtain ⟨rfl, hy⟩ := hy
    have := hy vs g2
    rw [h1] at this
    cases this
    exact ⟨Ext.refl _ _ _, hr, h2⟩
  · rw [← g3.length]
    exact List.getElem?_eq_none_iff.mp hx
theorem jr_tup {ρ : Rho} {H : Hp} {a : Addr} {xs : List EV} {vs : List V} (h : H a = some (.tup vs)) (hv : VRs G.K ρ H xs vs) : JR G ρ H ⟨none, xs, fun _ x => x⟩ (Itt G.K a) := fun ρ' H' eh ys e hr hc => by
  cases hc
  have g2 := e.tup _ _ h
  have g3 := hv.mono e
  refine ⟨fun i x hx => ?_, fun i hx => ⟨vs, SqT.of g2, ?_⟩⟩
  · obtain ⟨v, h1, h2⟩ := g3.get hx
    refine ⟨⟨vs, v, SqT.of g2, h1⟩, fun y H2 hy => ?_⟩
    obtain ⟨rfl, hy⟩ := hy
    have := hy vs (SqT.of g2)
    rw [h1] at this
    cases this
    exact ⟨Ext.refl _ _ _, hr, h2⟩
  · rw [← g3.length]
    exact List.getElem?_eq_none_iff.mp hx
theorem rng_get {lo : Int} {n i : Nat} {x : EV} (h : (rng lo n)[i]? = some x) : i < n ∧ x = .int (lo + i) := by
  unfold rng at h
  rw [List.getElem?_map] at h
  obtain ⟨j, h1, rfl⟩ := Option.map_eq_some_iff.mp h
  obtain ⟨h2, h3⟩ := List.getElem?_eq_some_iff.mp h1
  simp only [List.length_range] at h2
  simp only [List.getElem_range] at h3
  subst h3
  exact ⟨h2, rfl⟩
theorem rng_len (lo : Int) (n : Nat) : (rng lo n).length = n := by simp [rng]
theorem jr_rng {ρ : Rho} {H : Hp} {lo : Int} {n : Nat} : JR G ρ H ⟨none, rng lo n, fun _ x => x⟩ (Itr lo n) := fun ρ' H' eh ys e hr hc => by
  cases hc
  refine ⟨fun i x hx => ?_, fun i hx => ?_⟩
  · obtain ⟨h1, rfl⟩ := rng_get hx
    refine ⟨h1, fun y H2 hy => ?_⟩
    obtain ⟨rfl, rfl⟩ := hy
    exact ⟨Ext.refl _ _ _, hr, vr_int.mpr rfl⟩
  · have := List.getElem?_eq_none_iff.mp hx
    rw [rng_len] at this
    exact this
theorem snd_itL {tl : TE} {a : DE} (ha : SndE G E tl a) : SndI G E (iList G.K tl) (dItL a) := fun ρ σ H es eh Q rel h => by
  refine ha.bind rel h fun ρ1 H1 x eh1 u e1 rel1 v1 h1 => ?_
  cases x with
  | ref n =>
    simp only at h1
    split at h1
    · rename_i xs e2
      obtain ⟨a1, vs, g1, g2, g3⟩ := lst_of rel1.hr e2
      obtain ⟨a', q1, rfl⟩ := vr_ref.mp v1
      rw [g1] at q1; cases q1
      exact ⟨a1, rfl, ⟨vs, g2⟩, h1 ρ1 H1 _ (Ext.refl _ _ _) rel1.hr (jr_lst g1)⟩
    · exact h1.elim
  | _ => exact h1.elim
theorem snd_itT {tl : TE} {a : DE} (ha : SndE G E tl a) : SndI G E (iTup G.K tl) (dItT a) := fun ρ σ H es eh Q rel h => by
  refine ha.bind rel h fun ρ1 H1 x eh1 u e1 rel1 v1 h1 => ?_
  cases x with
  | tup xs =>
    obtain ⟨a1, vs, rfl, g2, g3⟩ := vr_tup.mp v1
    exact ⟨a1, rfl, ⟨vs, SqT.of g2⟩, h1 ρ1 H1 _ (Ext.refl _ _ _) rel1.hr (jr_tup g2 g3)⟩
  | _ => exact h1.elim
theorem snd_itR1 {ta : TA} {a : DA} (ha : SndA G E ta a) : SndI G E (iRng1 ta) (dItR1 a) := fun ρ σ H es eh Q rel h => by
  refine ha.bind rel h fun ρ1 H1 x eh1 u e1 rel1 v1 h1 => ?_
  split at h1
  · rename_i n
    split at h1
    · rename_i hc
      simp only [Bool.and_eq_true, decide_eq_true_eq] at hc
      obtain ⟨v, rfl, hv⟩ := vrs_one v1
      rw [vr_int.mp hv]
      exact ⟨n, rfl, by omega, by omega, h1 ρ1 H1 _ (Ext.refl _ _ _) rel1.hr jr_rng⟩
    · exact h1.elim
  · exact h1.elim
theorem snd_itR2 {ta : TA} {a : DA} (ha : SndA G E ta a) : SndI G E (iRng2 ta) (dItR2 a) := fun ρ σ H es eh Q rel h => by
  refine ha.bind rel h fun ρ1 H1 x eh1 u e1 rel1 v1 h1 => ?_
  split at h1
  · rename_i lo n
    split at h1
    · rename_i hc
      simp only [Bool.and_eq_true, decide_eq_true_eq] at hc
      obtain ⟨v, w, rfl, hv, hw⟩ := vrs_two v1
      rw [vr_int.mp hv, vr_int.mp hw]
      exact ⟨lo, n, rfl, ⟨by omega, by omega, by omega, by omega⟩, h1 ρ1 H1 _ (Ext.refl _ _ _) rel1.hr jr_rng⟩
    · exact h1.elim
  · exact h1.elim
theorem snd_for {wi : TI} {g : TG} {tb : TS} {di : DI} {dg : DG} {b : DS} (hi : SndI G E wi di) (hg : SndG G E g dg) (hb : SndS G E tb b) : SndS G E (tFor wi g tb) (dFor di dg b) := fun ρ σ H es eh D rel h => by
  refine hi.bind rel h fun ρ1 H1 it eh1 J e1 rel1 jr h1 => ?_
  split at h1
  · exact h1.elim
  · rename_i xs0 _
    refine ⟨fun i m σ H => ∃ ρ' es eh, Ext G.K ρ1 ρ' H1 H ∧ Rel G ρ' σ H es eh ∧ wr G (RF G) ρ' H (forGo it dg b m i es eh) (qD D) E, ⟨_, ρ1, es, eh1, Ext.refl _ _ _, rel1, h1⟩, ?_⟩
    rintro i m σ' H' ⟨ρ', es', eh', e', rel', hw⟩
    cases m with
    | zero => exact hw.elim
    | succ m =>
      unfold forGo at hw
      split at hw
      · exact hw.elim
      · rename_i xs hxs
        obtain ⟨j1, j2⟩ := jr ρ' H' eh' xs e' rel'.hr hxs
        split at hw
        · rename_i hn
          exact .inl ⟨j2 i hn, hw ρ' H' (.nx σ') (Ext.refl _ _ _) rel'.hr rel'.sl⟩
        · rename_i x hx
          obtain ⟨go, yl⟩ := j1 i x hx
          refine .inr ⟨go, fun σ2 H2 => ∃ ρ2 es2 eh2, Ext G.K ρ1 ρ2 H1 H2 ∧ Rel G ρ2 σ2 H2 es2 eh2 ∧ wr G (RF G) ρ2 H2 (forGo it dg b m (i + 1) es2 eh2) (qD D) E, fun σ2 H2 q => ⟨m, Nat.lt_succ_self m, q⟩, fun y H3 hy => ?_⟩
          obtain ⟨e3, hr3, v3⟩ := yl y H3 hy
          refine hg.bind (rel'.ext e3 hr3) v3 (hw.mono e3) fun ρ4 H4 es4 eh4 σ4 e4 rel4 _ h4 => ?_
          refine hb.bind rel4 h4 fun ρ5 H5 f eh5 vf e5 hr5 rf h5 => ?_
          have et := ((e'.trans e3).trans e4).trans e5
          cases f with
          | nx es5 =>
            cases vf with
            | nx σ5 => exact ⟨ρ5, es5, eh5, et, ⟨rf, hr5⟩, h5⟩
            | _ => exact rf.elim
          | ct es5 =>
            cases vf with
            | ct σ5 => exact ⟨ρ5, es5, eh5, et, ⟨rf, hr5⟩, h5⟩
            | _ => exact rf.elim
          | bk es5 =>
            cases vf with
            | bk σ5 => exact h5 ρ5 H5 (.nx σ5) (Ext.refl _ _ _) hr5 rf
            | _ => exact rf.elim
          | rt v =>
            cases vf with
            | rt w => exact h5 ρ5 H5 (.rt w) (Ext.refl _ _ _) hr5 rf
            | _ => exact rf.elim
def PId (X : Cx) (ct : Nat → Addr × List Str) (E : XK) (tg iter : Expr) (d : DI) : Prop := ∃ t, PI X tg iter t ∧ SndI ⟨X.K, ct⟩ E t d
variable {tg iter a b : Expr} {da db : DE} {dr : DA} {di : DI} {dg : DG} {ds : DS} {body : List Stmt} {pos p : Pos}
theorem xi_list (h : PEd X ct E a da) : PId X ct E tg a (dItL da) := by
  obtain ⟨t, h1, h2⟩ := h
  exact ⟨_, pi_list h1, snd_itL h2⟩
theorem xi_tup (h : PEd X ct E a da) : PId X ct E tg a (dItT da) := by
  obtain ⟨t, h1, h2⟩ := h
  exact ⟨_, pi_tup h1, snd_itT h2⟩
theorem xi_rng1 (hg : Gl X "range") (hm : X.mg "range" = none) (ha : PAd X ct E [a] dr) (hs : starEach [a] X.env = [(false, eval a X.env)] := by rfl) : PId X ct E tg (.Call (.Name "range" p) [a] [] pos) (dItR1 dr) := by
  obtain ⟨t, h1, h2⟩ := ha
  exact ⟨_, pi_range1 hg hm h1 hs, snd_itR1 h2⟩
theorem xi_rng2 (hg : Gl X "range") (hm : X.mg "range" = none) (ha : PAd X ct E [a, b] dr) (hs : starEach [a, b] X.env = [(false, eval a X.env), (false, eval b X.env)] := by rfl) (hs2 : starEach [b] X.env = [(false, eval b X.env)] := by rfl) :
    PId X ct E tg (.Call (.Name "range" p) [a, b] [] pos) (dItR2 dr) := by
  obtain ⟨t, h1, h2⟩ := ha
  exact ⟨_, pi_range2 hg hm h1 hs hs2, snd_itR2 h2⟩
theorem xs_for (hp : PassesOwn (model X.prog X.w) X.A X.env X.xe) (hc : X.calm = true) (hi : PId X ct E tg iter di) (hg : PGd X ct E tg dg) (hb : PSsd X ct E body ds)
    (hs : ∀ x, foldedSetIterable iter X.env x = pure x := by intro _; rfl) : PSd X ct E (.For tg iter body [] pos) (dFor di dg ds) := by
  obtain ⟨t, a1, a2⟩ := hi
  obtain ⟨u, b1, b2⟩ := hg
  obtain ⟨w, c1, c2⟩ := hb
  exact ⟨_, ps_for hp hc a1 b1 c1 hs, snd_for a2 b2 c2⟩
end
def lcGo (it : Wlk) (g : DG) (t : DT) (e : DE) (vs : List Nat) : Nat → Nat → List EV → ES → EH → Res (List EV)
  | 0, _, _, _, _ => .no
  | m + 1, i, acc, es, h => match it.cur h with
    | none => .no
    | some xs => match xs[i]? with
      | none => .ok acc h
      | some x => (g (it.tl i x) (wip es vs) h).bind fun es1 h1 => (t es1 h1).bind fun b h2 => if b = true then (e es1 h2).bind fun y h3 => (if acc.length < 50000 then lcGo it g t e vs m (i + 1) (acc ++ [y]) es h3 else .no) else lcGo it g t e vs m (i + 1) acc es h2
def dLc (di : DI) (g : DG) (t : DT) (e : DE) (vs : List Nat) : DE := fun es h => (di es h).bind fun it h1 => match it.cur h1 with
  | none => .no
  | some xs => (lcGo it g t e vs (xs.length + 1) 0 [] es h1).bind fun ys h2 => .ok (.ref h2.length) (h2 ++ [.lst ys])
def OnlyIn (g : TG) (vs : List Nat) : Prop := ∀ (τ : L2.St) (v : V) (σ : L2.St) (H : Hp) (Q Q' : L2.St → Hp → Prop), wipe σ vs = τ → (∀ σ2 H2, wipe σ2 vs = τ → Q σ2 H2 → Q' σ2 H2) → g v σ H Q → g v σ H Q'
def OnlyIns (g : TGs) (vs : List Nat) : Prop := ∀ (τ : L2.St) (v : List V) (σ : L2.St) (H : Hp) (Q Q' : L2.St → Hp → Prop), wipe σ vs = τ → (∀ σ2 H2, wipe σ2 vs = τ → Q σ2 H2 → Q' σ2 H2) → g v σ H Q → g v σ H Q'
theorem wipe_set {σ : L2.St} {i : Nat} {x : Option V} : ∀ {vs : List Nat}, i ∈ vs → wipe (σ.set i x) vs = wipe σ vs := by
  have comm : ∀ (vs : List Nat) (σ : L2.St) (i : Nat), i ∉ vs → ∀ x, wipe (σ.set i x) vs = (wipe σ vs).set i x := by
    intro vs
    induction vs with
    | nil => intro σ i _ x; rfl
    | cons v vs ih =>
      intro σ i hi x
      simp only [List.mem_cons, not_or] at hi
      show (wipe (σ.set i x) vs).set v none = ((wipe σ vs).set v none).set i x
      rw [ih σ i hi.2 x, List.set_comm _ _ hi.1]
  intro vs hi
  induction vs with
  | nil => cases hi
  | cons v vs ih =>
    show (wipe (σ.set i x) vs).set v none = (wipe σ vs).set v none
    by_cases h : i ∈ vs
    · rw [ih h]
    · have e : i = v := by
        rcases List.mem_cons.mp hi with e | e
        · exact e
        · exact absurd e h
      subst e
      rw [comm vs σ i h x, List.set_set]
theorem wipe_wipe {σ : L2.St} : ∀ vs : List Nat, wipe (wipe σ vs) vs = wipe σ vs := by
  have key : ∀ (ws vs : List Nat), (∀ v ∈ ws, v ∈ vs) → wipe (wipe σ ws) vs = wipe σ vs := by
    intro ws
    induction ws with
    | nil => intro vs _; rfl
    | cons w ws ih =>
      intro vs h
      show wipe ((wipe σ ws).set w none) vs = wipe σ vs
      rw [wipe_set (h w List.mem_cons_self)]
      exact ih vs fun v hv => h v (List.mem_cons_of_mem _ hv)
  exact fun vs => key vs vs fun _ h => h
theorem only_name {i : Nat} {vs : List Nat} (h : i ∈ vs) : OnlyIn (gName i) vs := fun τ v σ H Q Q' hw hq q => hq _ _ ((wipe_set h).trans hw) q
theorem only_nil {vs : List Nat} : OnlyIns gNil vs := fun τ v σ H Q Q' hw hq q => ⟨q.1, hq _ _ hw q.2⟩
theorem only_cons {g : TG} {u : TGs} {vs : List Nat} (h : OnlyIn g vs) (hu : OnlyIns u vs) : OnlyIns (gCons g u) vs := fun τ xs σ H Q Q' hw hq q => by
  obtain ⟨v, r, e, q⟩ := q
  exact ⟨v, r, e, h τ v σ H _ _ hw (fun σ1 H1 w1 q1 => hu τ r σ1 H1 Q Q' w1 hq q1) q⟩
theorem only_tup {K : Fg} {n : Nat} {u : TGs} {vs : List Nat} (hu : OnlyIns u vs) : OnlyIn (gTup K n u) vs := fun τ v σ H Q Q' hw hq q => by
  obtain ⟨a, xs, e, h1, hl, q⟩ := q
  exact ⟨a, xs, e, h1, hl, hu τ xs σ H Q Q' hw hq q⟩
section
variable {X : Cx} {ct : Nat → Addr × List Str} {E : XK} {G : Gx}
theorem SR.bare {K : Fg} {ρ : Rho} {H H' : Hp} {es : ES} {σ : L2.St} (e : Ext0 K ρ ρ H H') (h : SR K ρ H es σ) : SR K ρ H' es σ := ⟨h.1, fun i v hv => by
  obtain ⟨u, h1, h2⟩ := h.2 i v hv
  exact ⟨u, h1, VR.mono0 e _ _ h2⟩⟩
theorem ext0_upd {K : Fg} {ρ : Rho} {H : Hp} {p : Addr} {xs : List V} {u : HO} (h : H p = some (.lst xs)) : Ext0 K ρ ρ H (upd H p u) where
  pre := ⟨[], by simp⟩
  xd := fun a ys q => by
    rw [upd_ne (fun z => by subst z; rw [h] at q; cases q)]
    exact q
  tup := fun a ys q => by
    rw [upd_ne]
    · exact q
    · intro z
      subst z
      rw [h] at q
      cases q
  frz := fun a o v q => by
    rw [upd_ne]
    · exact q
    · intro z
      subst z
      rw [h] at q
      cases q
theorem snd_lc {wi : TI} {g : TG} {tt : TT} {te : TE} {vs : List Nat} {di : DI} {dg : DG} {dt : DT} {de : DE} (hi : SndI G E wi di) (hg : SndG G E g dg) (ho : OnlyIn g vs) (ht : SndT G E tt dt) (he : SndE G E te de) : SndE G E (tLc wi g tt te vs) (dLc di dg dt de vs) := fun ρ σ H es eh Q rel h => by
  refine hi.bind rel h fun ρ1 H1 it eh1 J e1 rel1 jr h1 => ?_
  split at h1
  · exact h1.elim
  · rename_i xs0 _
    intro Dl hD
    refine ⟨fun i m H => ∃ ρ' eh acc us, Ext G.K ρ1 ρ' H1 H ∧ HR G ρ' H eh ∧ (true, Dl) ∉ ρ' ∧ H Dl = some (.lst us) ∧ VRs G.K ρ' H acc us ∧
      wr G (VR G.K) ρ1 H1 ((lcGo it dg dt de vs m i acc es eh).bind fun ys h2 => .ok (.ref h2.length) (h2 ++ [.lst ys])) Q E,
      ⟨_, ρ1, eh1, [], [], Ext.side _ hD, rel1.hr.side _ hD, rel1.hr.fresh hD, upd_same, vrs_nil.mpr rfl, h1⟩, ?_⟩
    rintro i m H' ⟨ρ', eh', acc, us, e', hr', hn, hDl, hacc, hw⟩
    cases m with
    | zero => exact hw.elim
    | succ m =>
      unfold lcGo at hw
      split at hw
      · exact hw.elim
      · rename_i xs hxs
        obtain ⟨j1, j2⟩ := jr ρ' H' eh' xs e' hr' hxs
        split at hw
        · rename_i hnone
          refine .inl ⟨j2 i hnone, ?_⟩
          have e5 := e'.push hD
          have e0 : Ext0 G.K ρ' (ρ' ++ [(true, Dl)]) H' H' := ⟨⟨[(true, Dl)], rfl⟩, fun _ _ q => q, fun _ _ _ q => q, fun _ _ q => q⟩
          exact hw (ρ' ++ [(true, Dl)]) H' _ e5 (hr'.push hn rfl ⟨us, hDl, VRs.mono0 e0 _ _ hacc⟩) (vr_ref.mpr ⟨Dl, last_get hr'.len, rfl⟩)
        · rename_i x hx
          obtain ⟨go, yl⟩ := j1 i x hx
          refine .inr ⟨go, fun H2 => ∃ ρ2 eh2 acc2 us2, Ext G.K ρ1 ρ2 H1 H2 ∧ HR G ρ2 H2 eh2 ∧ (true, Dl) ∉ ρ2 ∧ H2 Dl = some (.lst us2) ∧ VRs G.K ρ2 H2 acc2 us2 ∧
            wr G (VR G.K) ρ1 H1 ((lcGo it dg dt de vs m (i + 1) acc2 es eh2).bind fun ys h2 => .ok (.ref h2.length) (h2 ++ [.lst ys])) Q E, fun H2 q => ⟨m, Nat.lt_succ_self m, q⟩, fun y H3 hy => ?_⟩
          obtain ⟨e3, hr3, v3⟩ := yl y H3 hy
          have keepD : ∀ {ρa ρb : Rho} {Ha Hb : Hp} {vs : List V}, Ext G.K ρa ρb Ha Hb → (true, Dl) ∉ ρa → Ha Dl = some (.lst vs) → (true, Dl) ∉ ρb ∧ Hb Dl = some (.lst vs) := fun e hn h => by
            refine ⟨fun hm => ?_, e.rest _ _ h pln_lst.1 hn⟩
            rcases e.new _ hm with z | z
            · exact hn z
            · obtain ⟨ps, q⟩ := z _ h; cases q
          have d3 := keepD e3 hn hDl
          have sr : SR G.K ρ' H3 (wip es vs) (wipe σ vs) := ((rel1.sl.mono e').mono e3).wip vs
          have en : Ext G.K ρ1 ρ' H1 H3 := e'.trans e3
          refine ho (wipe σ vs) y (wipe σ vs) H3 (fun σ2 H2 => tt σ2 H2 fun b H3 =>
              if b = true then te σ2 H3 fun y H4 => ∃ acc, H4 Dl = some (.lst acc) ∧ acc.length < sizeLine ∧ (∃ ρ2 eh2 acc2 us2, Ext G.K ρ1 ρ2 H1 (upd H4 Dl (.lst (acc ++ [y]))) ∧ HR G ρ2 (upd H4 Dl (.lst (acc ++ [y]))) eh2 ∧ (true, Dl) ∉ ρ2 ∧ (upd H4 Dl (.lst (acc ++ [y]))) Dl = some (.lst us2) ∧ VRs G.K ρ2 (upd H4 Dl (.lst (acc ++ [y]))) acc2 us2 ∧
                wr G (VR G.K) ρ1 H1 ((lcGo it dg dt de vs m (i + 1) acc2 es eh2).bind fun ys h2 => .ok (.ref h2.length) (h2 ++ [.lst ys])) Q E)
              else ∃ ρ2 eh2 acc2 us2, Ext G.K ρ1 ρ2 H1 H3 ∧ HR G ρ2 H3 eh2 ∧ (true, Dl) ∉ ρ2 ∧ H3 Dl = some (.lst us2) ∧ VRs G.K ρ2 H3 acc2 us2 ∧
                wr G (VR G.K) ρ1 H1 ((lcGo it dg dt de vs m (i + 1) acc2 es eh2).bind fun ys h2 => .ok (.ref h2.length) (h2 ++ [.lst ys])) Q E) _ (wipe_wipe vs) (fun σ2 H2 w q => ⟨w, q⟩) ?_
          refine hg ρ' (wipe σ vs) H3 (wip es vs) eh' (it.tl i x) y _ ⟨sr, hr3⟩ v3 ?_
          · skip
            cases qg : dg (it.tl i x) (wip es vs) eh' with
            | no =>
              rw [qg] at hw
              exact hw
            | er z h' =>
              rw [qg] at hw
              exact fun ρ' H' c own e' hr q => hw ρ' H' c own (en.trans e') hr q
            | ok es4 eh4 =>
              rw [qg] at hw
              intro ρ4 H4 σ4 e4 hr4 sr4
              have d4 := keepD e4 d3.1 d3.2
              have hw4 : wr G (VR G.K) ρ1 H1 ((dt es4 eh4).bind fun b h2 => (if b = true then (de es4 h2).bind fun y h3 => (if acc.length < 50000 then lcGo it dg dt de vs m (i + 1) (acc ++ [y]) es h3 else .no) else lcGo it dg dt de vs m (i + 1) acc es h2).bind fun ys h2 => .ok (.ref h2.length) (h2 ++ [.lst ys])) Q E := by
                have hw' := hw
                simp only [bind_ok] at hw'
                cases qt : dt es4 eh4 with
                | ok b h2 => rw [qt] at hw'; exact hw'
                | er z h2 => rw [qt] at hw'; exact hw'
                | no => rw [qt] at hw'; exact hw'
              refine ht.bind0 ⟨sr4, hr4⟩ (en.trans e4) hw4 fun ρ5 H5 b eh5 b' e5 rel5 v5 h5 => ?_
              subst v5
              have d5 := keepD e5 d4.1 d4.2
              have e15 := (en.trans e4).trans e5
              cases b with
              | false =>
                refine iteF ⟨ρ5, eh5, acc, us, e15, rel5.hr, d5.1, d5.2, ((hacc.mono e3).mono e4).mono e5, h5⟩
              | true =>
                have h5' : wr G (VR G.K) ρ1 H1 ((de es4 eh5).bind fun y h3 => (if acc.length < 50000 then lcGo it dg dt de vs m (i + 1) (acc ++ [y]) es h3 else .no).bind fun ys h2 => .ok (.ref h2.length) (h2 ++ [.lst ys])) Q E := by
                  have hw' := h5
                  simp only [if_true] at hw'
                  cases qt : de es4 eh5 with
                  | ok b h2 => rw [qt] at hw'; exact hw'
                  | er z h2 => rw [qt] at hw'; exact hw'
                  | no => rw [qt] at hw'; exact hw'
                refine iteT (he.bind0 rel5 e15 h5' fun ρ6 H6 y6 eh6 u6 e6 rel6 v6 h6 => ?_)
                have d6 := keepD e6 d5.1 d5.2
                have hacc6 := (((hacc.mono e3).mono e4).mono e5).mono e6
                split at h6
                · rename_i hl
                  have em : Ext G.K ρ1 ρ6 H1 (upd H6 Dl (.lst (us ++ [u6]))) := (e15.trans e6).mut hD
                  have eb : Ext0 G.K ρ6 ρ6 H6 (upd H6 Dl (.lst (us ++ [u6]))) := ext0_upd d6.2
                  refine ⟨us, d6.2, ?_, ρ6, eh6, acc ++ [y6], us ++ [u6], em, rel6.hr.ext eb (fun a ha => upd_ne fun z => d6.1 (z ▸ ha)) (tabs_upd rel6.hr.tab fun v hv => by rw [d6.2] at hv; cases hv; exact pln_lst), d6.1, upd_same, VRs.mono0 eb _ _ (hacc6.append (VRs.one v6)), h6⟩
                  rw [← hacc6.length]
                  exact Nat.lt_of_lt_of_le hl (by decide)
                · exact h6.elim
end
end EE
set_option Elab.async false
set_option linter.all false
set_option maxRecDepth 100000
set_option maxHeartbeats 1000000
namespace EE
open PySem PySem.Spec PyProof.Rows L2
def Res.noer {α : Type} (r : Res α) : Res α := match r with
  | .er _ _ => .no
  | z => z
@[simp] theorem noer_ok {α : Type} (v : α) (h : EH) : (Res.ok v h).noer = .ok v h := rfl
@[simp] theorem noer_no {α : Type} : (Res.no : Res α).noer = .no := rfl
def dDef (np N : Nat) (b : DS) : DL := fun args h => if args.length = np then (b (args.map some ++ List.replicate (N - args.length) none) h).bind fun f h1 => match f with
  | .nx _ => .ok .non h1
  | .rt v => .ok v h1
  | .bk _ => .no
  | .ct _ => .no
  else .no
def dCall (f : DL) (a : DA) : DE := fun es h => (a es h).bind fun xs h1 => (f xs h1).noer
def spD0 (G : Gx) (f : DL) : Sp := fun vs H Q _ => ∃ ρ xs eh, VRs G.K ρ H xs vs ∧ HR G ρ H eh ∧ wr G (VR G.K) ρ H (f xs eh) Q E0
theorem wr_noer {α β : Type} {G : Gx} {R : Rho → Hp → α → β → Prop} {ρ : Rho} {H : Hp} {r : Res α} {Q : β → Hp → Prop} {E E' : XK} (h : wr G R ρ H r.noer Q E) : wr G R ρ H r Q E' := by
  cases r with
  | ok v h' => exact h
  | er x h' => exact h.elim
  | no => exact h
theorem sr_start {K : Fg} {ρ : Rho} {H : Hp} {xs : List EV} {vs : List V} (N : List Str) (h : VRs K ρ H xs vs) : SR K ρ H (xs.map some ++ List.replicate (N.length - xs.length) none) (L2.start N vs) := by
  have hl := h.length
  refine ⟨by simp [L2.start, hl], fun i v hv => ?_⟩
  unfold L2.start
  by_cases hi : i < xs.length
  · rw [List.getElem?_append_left (by simpa using hi), List.getElem?_map] at hv
    obtain ⟨y, h1, h2⟩ := Option.map_eq_some_iff.mp hv
    cases h2
    obtain ⟨u, h3, h4⟩ := h.get h1
    refine ⟨u, ?_, h4⟩
    rw [List.getElem?_append_left (by rw [List.length_map, ← hl]; exact hi), List.getElem?_map, h3]
    rfl
  · rw [List.getElem?_append_right (by simpa using hi)] at hv
    rw [List.getElem?_replicate] at hv
    split at hv
    · cases hv
    · cases hv
section
variable {P : Program} {w : World} {K : Fg} {mg : Str → Option Value} {base : Heap} {ct : Nat → Addr × List Str}
theorem fn_d {x qual : Str} {st : Stmt} {f : Addr} {fd : FuncData} {N ps : List Str} {k : Nat} {d : DS} (F : Fun K x qual st f fd) (S : FnScope N ps (defScope st))
    (h : ∀ (cdv : Value) (A : Around) (outer : List Env) (s : Shared) (H : Hp) (E : XK), Room k (A.deeper (envOfC qual (defScope st) s.heap.objs.size f cdv)) → PSsd (cxOf CX0 P w K mg base N qual (defScope st) f cdv A outer s H E).nox ct E0 (defBody st) d) :
    FnOk P w K mg base CX0 (k + 1) f fd ps (spD0 ⟨K, ct⟩ (dDef ps.length N.length d)) := by
  refine F.ok S (fun vs H Q E hs => ?_) fun cdv A outer s H vs Q E hr hs => ?_
  · obtain ⟨ρ, xs, eh, h1, h2, h3⟩ := hs
    rw [← h1.length]
    unfold dDef at h3
    split at h3
    · assumption
    · exact h3.elim
  · obtain ⟨ρ, xs, eh, h1, h2, h3⟩ := hs
    obtain ⟨t, b1, b2⟩ := h cdv A outer s H E hr
    refine ⟨t, b1, b2 ρ (L2.start N vs) H _ eh _ ⟨sr_start N h1, h2⟩ ?_⟩
    unfold dDef at h3
    split at h3
    · cases q : d (xs.map some ++ List.replicate (N.length - xs.length) none) eh with
      | no => rw [q] at h3; exact h3
      | er z h' => rw [q] at h3; exact h3
      | ok fl h' =>
        rw [q] at h3
        intro ρ' H' vf e hr' rf
        cases fl with
        | nx es' =>
          cases vf with
          | nx σ' => exact h3 ρ' H' .non e hr' (vr_non.mpr rfl)
          | _ => exact rf.elim
        | rt v =>
          cases vf with
          | rt u => exact h3 ρ' H' u e hr' rf
          | _ => exact rf.elim
        | bk _ => exact h3.elim
        | ct _ => exact h3.elim
    · exact h3.elim
def FnD (P : Program) (w : World) (K : Fg) (mg : Str → Option Value) (base : Heap) (ct : Nat → Addr × List Str) (k : Nat) (x : Str) (fn : DL) : Prop := ∃ f fd ps, FnOk P w K mg base CX0 k f fd ps (spD0 ⟨K, ct⟩ fn) ∧ mg x = some (.ref f) ∧ PySem.W.keepIn K (.ref f) = true ∧ Binds K fd ps []
theorem FnD.mono {j k : Nat} {x : Str} {fn : DL} (F : FnD P w K mg base ct j x fn) (h : j ≤ k) : FnD P w K mg base ct k x fn := by
  obtain ⟨f, fd, ps, h1, h2⟩ := F
  exact ⟨f, fd, ps, h1.mono h, h2⟩
def Tx (K : Fg) (mg : Str → Option Value) (x : Str) (st : Stmt) (ps : List Str) : Prop := ∃ f fd, Fun K x x st f fd ∧ mg x = some (.ref f) ∧ Binds K fd ps []
theorem fnd_mk {x : Str} {st : Stmt} {N ps : List Str} {k : Nat} {d : DS} (T : Tx K mg x st ps) (S : FnScope N ps (defScope st))
    (h : ∀ (f : Addr) (cdv : Value) (A : Around) (outer : List Env) (s : Shared) (H : Hp) (E : XK), Room k (A.deeper (envOfC x (defScope st) s.heap.objs.size f cdv)) → PSsd (cxOf CX0 P w K mg base N x (defScope st) f cdv A outer s H E).nox ct E0 (defBody st) d) :
    FnD P w K mg base ct (k + 1) x (dDef ps.length N.length d) := by
  obtain ⟨f, fd, F, hm, hb⟩ := T
  exact ⟨f, fd, ps, fn_d F S (h f), hm, F.kp, hb⟩
theorem fnd_zero {x : Str} {st : Stmt} {ps : List Str} (T : Tx K mg x st ps) : FnD P w K mg base ct 0 x (fun _ _ => .no) := by
  obtain ⟨f, fd, F, hm, hb⟩ := T
  refine ⟨f, fd, ps, ⟨fun vs H Q E hs => ?_, fun A outer s H args us vs Q E _ _ _ _ hs => ?_⟩, hm, F.kp, hb⟩
  · obtain ⟨_, _, _, _, _, h3⟩ := hs
    exact h3.elim
  · obtain ⟨_, _, _, _, _, h3⟩ := hs
    exact h3.elim
end
section
variable {X : Cx} {ct : Nat → Addr × List Str} {E : XK} {e : Expr} {es : List Expr} {pos p : Pos} {dr : DA}
theorem xe_call {k : Nat} {x : Str} {fn : DL} (F : FnD X.prog X.w X.K X.mg X.base ct k x fn) (hr : Room k X.A) (hg : Gl X x) (ha : PAd X ct E (e :: es) dr) (hdb : (x == ("__debug__" : Str)) = false := by decide)
    (he : starEach (e :: es) X.env = (false, eval e X.env) :: starEach es X.env := by rfl) (hpl : (backTo pos (starEach es X.env)).any (·.1) = false := by rfl) : PEd X ct E (.Call (.Name x p) (e :: es) [] pos) (dCall fn dr) := by
  obtain ⟨f, fd, ps, h1, hm, hk, hb⟩ := F
  obtain ⟨ta, a1, a2⟩ := ha
  refine ⟨_, pe_call h1 hr hg hm hk hb .nil pass0 a1 hdb he hpl, fun ρ σ H es eh Q rel h => ?_⟩
  refine a2.bind rel h fun ρ1 H1 xs eh1 us e1 rel1 v1 h1 => ?_
  exact ⟨ρ1, xs, eh1, by rw [List.append_nil]; exact v1, rel1.hr, wr_noer h1⟩
def tE (G : Gx) (E : XK) (d : DE) : TE := fun σ H Q => ∃ ρ es eh, Rel G ρ σ H es eh ∧ wr G (VR G.K) ρ H (d es eh) Q E
def tT (G : Gx) (E : XK) (d : DT) : TT := fun σ H Q => ∃ ρ es eh, Rel G ρ σ H es eh ∧ wr G RB ρ H (d es eh) Q E
theorem PEd.can {d : DE} (h : PEd X ct E e d) : PE X e (tE ⟨X.K, ct⟩ E d) := by
  obtain ⟨t, h1, h2⟩ := h
  exact ⟨fun pins s σ H Q I ⟨ρ, es, eh, r, w⟩ => h1.run pins s σ H Q I (h2 ρ σ H es eh Q r w)⟩
theorem PTd.can {d : DT} (h : PTd X ct E e d) : PT X e (tT ⟨X.K, ct⟩ E d) := by
  obtain ⟨t, h1, h2⟩ := h
  exact ⟨fun pins s σ H Q I ⟨ρ, es, eh, r, w⟩ => h1.run pins s σ H Q I (h2 ρ σ H es eh Q r w)⟩
theorem snd_tE {G : Gx} {d : DE} : SndE G E (tE G E d) d := fun ρ σ H es eh Q r w => ⟨ρ, es, eh, r, w⟩
theorem snd_tT {G : Gx} {d : DT} : SndT G E (tT G E d) d := fun ρ σ H es eh Q r w => ⟨ρ, es, eh, r, w⟩
def dYes : DT := fun _ h => .ok true h
theorem snd_yes {G : Gx} : SndT G E tYes dYes := fun ρ σ H es eh Q rel h => h ρ H true (Ext.refl _ _ _) rel.hr rfl
variable {elt tg iter c : Expr} {scope : Scope} {di : DI} {dt : DT} {de : DE}
theorem xe_lc1 (i : Nat) {x : Str} {px : Pos} (hc : X.calm = true) (hN : X.N.Nodup) (hi : PId X ct E (.Name x px) iter di) (he : ∀ (s : Shared) (H : Hp) (C : Addr) (cl : List (Str × Addr)) (fp : List Addr), PEd (X.blk s H scope (compEnvC scope cl C X.env) fp) ct E elt de)
    (ok : blkC X.N X.env.scope scope [(x, i)] = true := by kernel_rfl)
    (hg : ∀ (s : Shared) (H : Hp) (C : Addr) (cl : List (Str × Addr)) (fp : List Addr), PG (X.blk s H scope (compEnvC scope cl C X.env) fp) (.Name x px) (gName i) := by exact fun _ _ _ _ _ => pg_name (by assumption) rfl (by first | exact Or.inl rfl | exact Or.inr rfl))
    (hs : ∀ x, foldedSetIterable iter X.env x = pure x := by intro _; rfl) :
    PEd X ct E (.ListComp elt [⟨.Name x px, iter, [], 0⟩] scope pos) (dLc di (dName i) dYes de [i]) := by
  obtain ⟨wi, i1, i2⟩ := hi
  exact ⟨_, pe_lc (own := [(x, i)]) hc hN i1 (blkOk_by ok) hg (fun _ _ _ _ _ => pts_nil) (fun s H C cl fp => (he s H C cl fp).can) hs, snd_lc i2 snd_gname (only_name (by simp)) snd_yes snd_tE⟩
theorem xe_lc1i (i : Nat) {x : Str} {px : Pos} (hc : X.calm = true) (hN : X.N.Nodup) (hi : PId X ct E (.Name x px) iter di) (ht : ∀ (s : Shared) (H : Hp) (C : Addr) (cl : List (Str × Addr)) (fp : List Addr), PTd (X.blk s H scope (compEnvC scope cl C X.env) fp) ct E c dt)
    (he : ∀ (s : Shared) (H : Hp) (C : Addr) (cl : List (Str × Addr)) (fp : List Addr), PEd (X.blk s H scope (compEnvC scope cl C X.env) fp) ct E elt de)
    (ok : blkC X.N X.env.scope scope [(x, i)] = true := by kernel_rfl)
    (hg : ∀ (s : Shared) (H : Hp) (C : Addr) (cl : List (Str × Addr)) (fp : List Addr), PG (X.blk s H scope (compEnvC scope cl C X.env) fp) (.Name x px) (gName i) := by exact fun _ _ _ _ _ => pg_name (by assumption) rfl (by first | exact Or.inl rfl | exact Or.inr rfl))
    (hs : ∀ x, foldedSetIterable iter X.env x = pure x := by intro _; rfl) :
    PEd X ct E (.ListComp elt [⟨.Name x px, iter, [c], 0⟩] scope pos) (dLc di (dName i) dt de [i]) := by
  obtain ⟨wi, i1, i2⟩ := hi
  exact ⟨_, pe_lc (own := [(x, i)]) hc hN i1 (blkOk_by ok) hg (fun s H C cl fp => pts_one (ht s H C cl fp).can) (fun s H C cl fp => (he s H C cl fp).can) hs, snd_lc i2 snd_gname (only_name (by simp)) snd_tT snd_tE⟩
theorem xs_setLc1 (j i : Nat) {x y : Str} {px py spos : Pos} (hc : X.calm = true) (hN : X.N.Nodup) (hi : PId X ct E (.Name x px) iter di) (he : ∀ (s : Shared) (H : Hp) (C : Addr) (cl : List (Str × Addr)) (fp : List Addr), PEd (X.blk s H scope (compEnvC scope cl C X.env) fp) ct E elt de)
    (hsw : swapsWith (.ListComp elt [⟨.Name x px, iter, [], 0⟩] scope pos) (some (.Name y py)) spos.line X.env = pure true)
    (ok : blkC X.N X.env.scope scope [(x, i)] = true := by kernel_rfl)
    (hg : ∀ (s : Shared) (H : Hp) (C : Addr) (cl : List (Str × Addr)) (fp : List Addr), PG (X.blk s H scope (compEnvC scope cl C X.env) fp) (.Name x px) (gName i) := by exact fun _ _ _ _ _ => pg_name (by assumption) rfl (by first | exact Or.inl rfl | exact Or.inr rfl))
    (hy : X.N[j]? = some y := by rfl) (hyl : X.env.scope.names.lookup y = some .local := by rfl) (hs : ∀ x, foldedSetIterable iter X.env x = pure x := by intro _; rfl) :
    PSd X ct E (.Assign [.Name y py] (.ListComp elt [⟨.Name x px, iter, [], 0⟩] scope pos) spos) (dAsg (dLc di (dName i) dYes de [i]) (dName j)) := by
  obtain ⟨wi, i1, i2⟩ := hi
  exact ⟨_, ps_setLc (own := [(x, i)]) hc hN hy hyl hsw i1 (blkOk_by ok) hg (fun _ _ _ _ _ => pts_nil) (fun s H C cl fp => (he s H C cl fp).can) hs, snd_asg (snd_lc i2 snd_gname (only_name (by simp)) snd_yes snd_tE) snd_gname⟩
theorem xs_setLc1i (j i : Nat) {x y : Str} {px py spos : Pos} (hc : X.calm = true) (hN : X.N.Nodup) (hi : PId X ct E (.Name x px) iter di) (ht : ∀ (s : Shared) (H : Hp) (C : Addr) (cl : List (Str × Addr)) (fp : List Addr), PTd (X.blk s H scope (compEnvC scope cl C X.env) fp) ct E c dt)
    (he : ∀ (s : Shared) (H : Hp) (C : Addr) (cl : List (Str × Addr)) (fp : List Addr), PEd (X.blk s H scope (compEnvC scope cl C X.env) fp) ct E elt de)
    (hsw : swapsWith (.ListComp elt [⟨.Name x px, iter, [c], 0⟩] scope pos) (some (.Name y py)) spos.line X.env = pure true)
    (ok : blkC X.N X.env.scope scope [(x, i)] = true := by kernel_rfl)
    (hg : ∀ (s : Shared) (H : Hp) (C : Addr) (cl : List (Str × Addr)) (fp : List Addr), PG (X.blk s H scope (compEnvC scope cl C X.env) fp) (.Name x px) (gName i) := by exact fun _ _ _ _ _ => pg_name (by assumption) rfl (by first | exact Or.inl rfl | exact Or.inr rfl))
    (hy : X.N[j]? = some y := by rfl) (hyl : X.env.scope.names.lookup y = some .local := by rfl) (hs : ∀ x, foldedSetIterable iter X.env x = pure x := by intro _; rfl) :
    PSd X ct E (.Assign [.Name y py] (.ListComp elt [⟨.Name x px, iter, [c], 0⟩] scope pos) spos) (dAsg (dLc di (dName i) dt de [i]) (dName j)) := by
  obtain ⟨wi, i1, i2⟩ := hi
  exact ⟨_, ps_setLc (own := [(x, i)]) hc hN hy hyl hsw i1 (blkOk_by ok) hg (fun s H C cl fp => pts_one (ht s H C cl fp).can) (fun s H C cl fp => (he s H C cl fp).can) hs, snd_asg (snd_lc i2 snd_gname (only_name (by simp)) snd_tT snd_tE) snd_gname⟩
end
def LawOk (fn : DL) : Prop := ∀ ns : List Int, ns.length ≤ 63 → ∃ h, fn [.ref 0] [.ro (ns.map EV.int)] = .ok (.bl true) h
theorem law_sp {K : Fg} {ct : Nat → Addr × List Str} {fn : DL} (hl : LawOk fn) {H : Hp} {a : Addr} {ns : List Int} (hn : ns.length ≤ 63) (hO : Only H) (hS : SqL K H a (ns.map V.int)) (ht : tabOf ct = [] := by rfl) : spD0 ⟨K, ct⟩ fn [.ref a] H (fun v _ => v = .bl true) E0 := by
  obtain ⟨h', e⟩ := hl ns hn
  have hro : RoL K H a (ns.map V.int) := by
    rcases hS with (h | ⟨o, h⟩) | h
    · rcases hO a with z | ⟨o, xs, z⟩
      · rw [h] at z; cases z
      · rw [h] at z; cases z
    · exact .inl ⟨o, h⟩
    · exact .inr h
  refine ⟨[(false, a)], [.ref 0], [.ro (ns.map EV.int)], VRs.one (vr_ref.mpr ⟨a, rfl, rfl⟩), ⟨(by rw [show (⟨K, ct⟩ : Gx).ct = ct from rfl, ht]; exact fun p hp => nomatch hp), rfl, fun m n b h1 h2 => ?_, fun n o ho => ?_⟩, ?_⟩
  · cases m with
    | zero => simp at h1
    | succ m => simp at h1
  · cases n with
    | zero =>
      simp only [List.getElem?_cons_zero, Option.some.injEq] at ho
      subst ho
      exact ⟨a, rfl, ns.map V.int, hro, VRs.ints ns⟩
    | succ n => simp at ho
  · rw [e]
    intro ρ' H' u _ _ hv
    exact vr_bl.mp hv
end EE
set_option Elab.async false
set_option linter.all false
set_option maxRecDepth 100000
set_option maxHeartbeats 1000000
namespace EE
open PySem PySem.Spec PyProof.Rows L2
abbrev fAdd : D2 := d2or fAddI fCat
abbrev fMul : D2 := d2or fMulI fRep
abbrev fIn : D2 := fInL false
abbrev fNotIn : D2 := fInL true
section
variable {X : Cx} {ct : Nat → Addr × List Str} {E : XK}
theorem o_add : Opd X ct E (binaryOp .Add) fAdd := o_addI.or o_cat
theorem o_mul : Opd X ct E (binaryOp .Mult) fMul := o_mulI.or o_rep
theorem o_in (hu : X.A.units + 65 < cLine) : Opd X ct E (compareOp .In) fIn := o_inL hu
theorem o_notIn (hu : X.A.units + 65 < cLine) : Opd X ct E (compareOp .NotIn) fNotIn := o_notInL hu
theorem hu64 {k : Nat} {A : Around} (hr : Room k A) : A.units + 64 < cLine := by have := hr.un; omega
theorem hu65 {k : Nat} {A : Around} (hr : Room k A) : A.units + 65 < cLine := by have := hr.un; omega
end
end EE
set_option Elab.async false
set_option linter.all false
set_option maxRecDepth 100000
set_option maxHeartbeats 1000000
namespace EE
open PySem PySem.Spec PyProof.Rows L2
section
variable {κ : Type} [DecidableEq κ]
def dval (f : EV → Option κ) (kvs : List (EV × EV)) (k : κ) : Option EV := (kvs.find? fun p => decide (f p.1 = some k)).map (·.2)
def dput (f : EV → Option κ) (kvs : List (EV × EV)) (k : κ) (x v : EV) : List (EV × EV) :=
  if (kvs.any fun p => decide (f p.1 = some k)) = true then kvs.map (fun p => if f p.1 = some k then (p.1, v) else p) else kvs ++ [(x, v)]
def ddrop (f : EV → Option κ) (kvs : List (EV × EV)) (k : κ) : List (EV × EV) := kvs.filter fun p => decide (f p.1 ≠ some k)
variable {f : EV → Option κ} {R : EV → V → Prop}
theorem KR.len : ∀ {ps : List (EV × EV)} {l : List (κ × V)}, KR f R ps l → ps.length = l.length
  | [], _, h => by rw [h]; rfl
  | p :: ps, _, ⟨k, v, r, e, h1, h2, h3⟩ => by rw [e, List.length_cons, List.length_cons, KR.len h3]
theorem KR.val : ∀ {ps : List (EV × EV)} {l : List (κ × V)} (k : κ), KR f R ps l → FR R (dval f ps k) (valV l k)
  | [], _, k, h => by rw [h]; trivial
  | p :: ps, _, k, ⟨j, v, r, e, h1, h2, h3⟩ => by
    subst e
    by_cases hk : j = k
    · subst hk
      rw [valV_pos (p := (j, v)) rfl]
      unfold dval
      rw [List.find?_cons_of_pos (by simp [h1])]
      exact h2
    · rw [valV_neg (p := (j, v)) hk]
      unfold dval
      rw [List.find?_cons_of_neg (by simp [h1, hk])]
      exact KR.val k h3
theorem KR.any : ∀ {ps : List (EV × EV)} {l : List (κ × V)} (k : κ), KR f R ps l → (ps.any fun p => decide (f p.1 = some k)) = (l.any fun p => decide (p.1 = k))
  | [], _, k, h => by rw [h]; rfl
  | p :: ps, _, k, ⟨j, v, r, e, h1, h2, h3⟩ => by
    subst e
    rw [List.any_cons, List.any_cons, KR.any k h3, h1]
    simp only [Option.some.injEq]
theorem KR.upd {x : EV} {u : V} (k : κ) (hx : R x u) : ∀ {ps : List (EV × EV)} {l : List (κ × V)}, KR f R ps l → KR f R (ps.map fun p => if f p.1 = some k then (p.1, x) else p) (l.map fun p => if p.1 = k then (p.1, u) else p)
  | [], _, h => by rw [h]; rfl
  | p :: ps, _, ⟨j, v, r, e, h1, h2, h3⟩ => by
    subst e
    rw [List.map_cons, List.map_cons]
    by_cases hk : j = k
    · subst hk
      refine ⟨j, u, _, by rw [if_pos rfl], ?_, ?_, KR.upd j hx h3⟩
      · rw [if_pos h1]; exact h1
      · rw [if_pos h1]; exact hx
    · refine ⟨j, v, _, by rw [if_neg hk], ?_, ?_, KR.upd k hx h3⟩
      · rw [if_neg (by rw [h1]; simpa using hk)]; exact h1
      · rw [if_neg (by rw [h1]; simpa using hk)]; exact h2
theorem KR.snoc {y x : EV} {k : κ} {u : V} (hy : f y = some k) (hx : R x u) : ∀ {ps : List (EV × EV)} {l : List (κ × V)}, KR f R ps l → KR f R (ps ++ [(y, x)]) (l ++ [(k, u)])
  | [], _, h => by rw [h]; exact ⟨k, u, [], rfl, hy, hx, rfl⟩
  | p :: ps, _, ⟨j, v, r, e, h1, h2, h3⟩ => by
    subst e
    exact ⟨j, v, _, rfl, h1, h2, KR.snoc hy hx h3⟩
theorem KR.put {ps : List (EV × EV)} {l : List (κ × V)} {y x : EV} {k : κ} {u : V} (hy : f y = some k) (hx : R x u) (h : KR f R ps l) : KR f R (dput f ps k y x) (putK l k u) := by
  unfold dput putK
  rw [h.any k]
  split
  · exact h.upd k hx
  · exact h.snoc hy hx
theorem KR.drop (k : κ) : ∀ {ps : List (EV × EV)} {l : List (κ × V)}, KR f R ps l → KR f R (ddrop f ps k) (dropK l k)
  | [], _, h => by rw [h]; rfl
  | p :: ps, _, ⟨j, v, r, e, h1, h2, h3⟩ => by
    subst e
    unfold ddrop dropK
    by_cases hk : j = k
    · rw [List.filter_cons_of_neg (by simp [h1, hk]), List.filter_cons_of_neg (by simp [hk])]
      exact KR.drop k h3
    · rw [List.filter_cons_of_pos (by simp [h1, hk]), List.filter_cons_of_pos (by simp [hk])]
      exact ⟨j, v, _, rfl, h1, h2, KR.drop k h3⟩
theorem KR.at : ∀ {ps : List (EV × EV)} {l : List (κ × V)} {i : Nat} {p : EV × EV}, KR f R ps l → ps[i]? = some p → ∃ k v, l[i]? = some (k, v) ∧ f p.1 = some k ∧ R p.2 v
  | [], _, _, _, _, e => by simp at e
  | q :: ps, _, i, p, ⟨j, v, r, e, h1, h2, h3⟩, hp => by
    subst e
    cases i with
    | zero =>
      simp only [List.getElem?_cons_zero, Option.some.injEq] at hp
      subst hp
      exact ⟨j, v, rfl, h1, h2⟩
    | succ i =>
      simp only [List.getElem?_cons_succ] at hp ⊢
      exact KR.at h3 hp
end
theorem keyOf_vr {K : Fg} {ρ : Rho} {H : Hp} {x : EV} {k : Key} (h : keyOf x = some k) : VR K ρ H x (kV k) := by
  unfold keyOf at h
  split at h
  · cases h; exact vr_int.mpr rfl
  · cases h; exact vr_str.mpr rfl
  · cases h
theorem keyOf_eq {K : Fg} {ρ : Rho} {H : Hp} {x : EV} {k : Key} {y : V} (h : keyOf x = some k) (hx : VR K ρ H x y) : y = kV k := by
  unfold keyOf at h
  split at h
  · cases h; exact vr_int.mp hx
  · cases h; exact vr_str.mp hx
  · cases h
theorem keysOf_vrs {K : Fg} {ρ : Rho} {H : Hp} : ∀ {xs : List EV} {ks : List Key}, keysOf xs = some ks → VRs K ρ H xs (ks.map kV)
  | [], ks, h => by cases h; exact vrs_nil.mpr rfl
  | x :: xs, ks, h => by
    unfold keysOf at h
    split at h
    · rename_i k ks' e1 e2
      cases h
      exact vrs_cons.mpr ⟨kV k, ks'.map kV, rfl, keyOf_vr e1, keysOf_vrs e2⟩
    · cases h
theorem keysOf_eq {K : Fg} {ρ : Rho} {H : Hp} : ∀ {xs : List EV} {ks : List Key} {vs : List V}, keysOf xs = some ks → VRs K ρ H xs vs → vs = ks.map kV
  | [], ks, vs, h, hv => by cases h; exact vrs_nil.mp hv
  | x :: xs, ks, vs, h, hv => by
    unfold keysOf at h
    split at h
    · rename_i k ks' e1 e2
      cases h
      obtain ⟨v, r, rfl, h1, h2⟩ := vrs_cons.mp hv
      rw [keyOf_eq e1 h1, keysOf_eq e2 h2]
      rfl
    · cases h
theorem tkeyOf_vr {K : Fg} {ρ : Rho} {H : Hp} {x : EV} {k : List Key} {b : Addr} (h : tkeyOf x = some k) (hb : H b = some (.tup (k.map kV))) : VR K ρ H x (.ref b) := by
  unfold tkeyOf at h
  split at h
  · exact vr_tup.mpr ⟨b, k.map kV, rfl, hb, keysOf_vrs h⟩
  · cases h
theorem tkeyOf_eq {K : Fg} {ρ : Rho} {H : Hp} {x : EV} {k : List Key} {y : V} (h : tkeyOf x = some k) (hx : VR K ρ H x y) : ∃ b, y = .ref b ∧ H b = some (.tup (k.map kV)) := by
  unfold tkeyOf at h
  split at h
  · obtain ⟨a, vs, rfl, e2, e3⟩ := vr_tup.mp hx
    rw [keysOf_eq h e3] at e2
    exact ⟨a, rfl, e2⟩
  · cases h
def dgetE (t : Bool) (kvs : List (EV × EV)) (x : EV) : Option (Option EV) := match t with
  | false => (keyOf x).map (dval keyOf kvs)
  | true => (tkeyOf x).map (dval tkeyOf kvs)
def dputE (t : Bool) (kvs : List (EV × EV)) (x v : EV) : Option (List (EV × EV)) := match t with
  | false => (keyOf x).map fun k => dput keyOf kvs k x v
  | true => (tkeyOf x).map fun k => dput tkeyOf kvs k x v
def mdicAt (h : EH) (n : Nat) : Option (Bool × List (EV × EV)) := match h[n]? with
  | some (.dic t xs) => some (t, xs)
  | _ => none
section
variable {G : Gx} {ρ : Rho} {H : Hp} {eh : EH} {n : Nat}
theorem dic_of (hr : HR G ρ H eh) {t : Bool} {kvs : List (EV × EV)} (h : dicAt eh n = some (t, kvs)) : ∃ a u, adr ρ n = some a ∧ Rd H a u ∧ DR (VR G.K ρ H) t kvs u := by
  unfold dicAt at h
  split at h
  · rename_i t ys e
    cases h
    obtain ⟨a, h1, u, h2, h3⟩ := hr.obj n _ e
    exact ⟨a, u, adr_of h1, .inl h2, h3⟩
  · rename_i t ys e
    cases h
    obtain ⟨a, h1, f, u, h2, h3⟩ := hr.obj n _ e
    exact ⟨a, u, adr_of h1, .inr ⟨f, h2⟩, h3⟩
  · cases h
theorem mdic_of (hr : HR G ρ H eh) {t : Bool} {kvs : List (EV × EV)} (h : mdicAt eh n = some (t, kvs)) : ∃ a u, adr ρ n = some a ∧ H a = some u ∧ DR (VR G.K ρ H) t kvs u ∧ ρ[n]? = some (true, a) := by
  unfold mdicAt at h
  split at h
  · rename_i t ys e
    cases h
    obtain ⟨a, h1, u, h2, h3⟩ := hr.obj n _ e
    exact ⟨a, u, adr_of h1, h2, h3, h1⟩
  · cases h
theorem dget_of {t : Bool} {kvs : List (EV × EV)} {u : HO} {a : Addr} {x : EV} {y : V} {o : Option EV} (hu : Rd H a u) (hd : DR (VR G.K ρ H) t kvs u) (h : dgetE t kvs x = some o) (hx : VR G.K ρ H x y) : ∃ ov, DGet H a y ov ∧ FR (VR G.K ρ H) o ov := by
  cases t with
  | false =>
    obtain ⟨l, rfl, hk⟩ := hd
    obtain ⟨k, e1, e2⟩ := Option.map_eq_some_iff.mp h
    subst e2
    exact ⟨_, .inl ⟨l, k, hu, keyOf_eq e1 hx, rfl⟩, hk.val k⟩
  | true =>
    obtain ⟨l, rfl, hk⟩ := hd
    obtain ⟨k, e1, e2⟩ := Option.map_eq_some_iff.mp h
    subst e2
    obtain ⟨b, rfl, hb⟩ := tkeyOf_eq e1 hx
    exact ⟨_, .inr ⟨l, k, b, hu, rfl, hb, rfl⟩, hk.val k⟩
theorem put_dic (hr : HR G ρ H eh) {a : Addr} {u u' : HO} {t : Bool} {kvs kvs' : List (EV × EV)} (hn : ρ[n]? = some (true, a)) (ha : H a = some u) (hd : DR (VR G.K ρ H) t kvs u) (hd' : DR (VR G.K ρ H) t kvs' u') :
    Ext G.K ρ ρ H (upd H a u') ∧ HR G ρ (upd H a u') (eh.set n (.dic t kvs')) := by
  have e : Ext G.K ρ ρ H (upd H a u') := Ext.write _ hn ha hd.ntup hd.nfrz hd.pln
  exact ⟨e, hr.write hn rfl e ⟨u', upd_same, hd'.mono fun x v => VR.mono e x v⟩⟩
theorem DR.len {R : EV → V → Prop} : ∀ {t : Bool} {kvs : List (EV × EV)} {l : List (Key × V)}, DR R t kvs (.dK l) → kvs.length = l.length
  | false, _, _, ⟨_, e, q⟩ => by cases e; exact q.len
  | true, _, _, ⟨_, e, q⟩ => by cases e
theorem dput_of (hr : HR G ρ H eh) {t : Bool} {kvs kvs' : List (EV × EV)} {x v : EV} {y w : V} (h : mdicAt eh n = some (t, kvs)) (hp : dputE t kvs x v = some kvs') (hl : kvs.length < 100000) (hx : VR G.K ρ H x y) (hv : VR G.K ρ H v w) :
    ∃ a H', adr ρ n = some a ∧ DPut H a y w H' ∧ Ext G.K ρ ρ H H' ∧ HR G ρ H' (eh.set n (.dic t kvs')) := by
  obtain ⟨a, u, h1, h2, h3, h4⟩ := mdic_of hr h
  have hz : kvs.length < sizeLine := Nat.lt_of_lt_of_le hl (by decide)
  cases t with
  | false =>
    obtain ⟨l, rfl, hk⟩ := h3
    obtain ⟨k, e1, e2⟩ := Option.map_eq_some_iff.mp hp
    subst e2
    obtain ⟨e, hr'⟩ := put_dic (t := false) (kvs := kvs) (kvs' := dput keyOf kvs k x v) (u' := .dK (putK l k w)) hr h4 h2 ⟨l, rfl, hk⟩ ⟨_, rfl, hk.put e1 hv⟩
    exact ⟨a, _, h1, .inl ⟨l, k, h2, keyOf_eq e1 hx, by rw [← hk.len]; exact hz, rfl⟩, e, hr'⟩
  | true =>
    obtain ⟨l, rfl, hk⟩ := h3
    obtain ⟨k, e1, e2⟩ := Option.map_eq_some_iff.mp hp
    subst e2
    obtain ⟨b, rfl, hb⟩ := tkeyOf_eq e1 hx
    obtain ⟨e, hr'⟩ := put_dic (t := true) (kvs := kvs) (kvs' := dput tkeyOf kvs k x v) (u' := .dT (putK l k w)) hr h4 h2 ⟨l, rfl, hk⟩ ⟨_, rfl, hk.put e1 hv⟩
    exact ⟨a, _, h1, .inr ⟨l, k, b, h2, rfl, hb, by rw [← hk.len]; exact hz, rfl⟩, e, hr'⟩
end
def fDGet : D2 := fun x y h => match x with
  | .ref n => match dicAt h n with
    | some (t, kvs) => match dgetE t kvs y with
      | some (some v) => .ok v h
      | _ => .no
    | none => .no
  | _ => .no
def fDIn (neg : Bool) : D2 := fun x y h => match y with
  | .ref n => match dicAt h n with
    | some (t, kvs) => match dgetE t kvs x with
      | some o => .ok (.bl (neg ^^ o.isSome)) h
      | _ => .no
    | none => .no
  | _ => .no
def sDic : DSet := fun o i x h => match o with
  | .ref n => match mdicAt h n with
    | some (t, kvs) => match dputE t kvs i x with
      | some kvs' => if kvs.length < 100000 then .ok () (h.set n (.dic t kvs')) else .no
      | none => .no
    | none => .no
  | _ => .no
theorem FR.isSome {R : EV → V → Prop} : ∀ {x : Option EV} {v : Option V}, FR R x v → x.isSome = v.isSome
  | some _, some _, _ => rfl
  | none, none, _ => rfl
  | some _, none, q => q.elim
  | none, some _, q => q.elim
theorem dOp_or (f g : D2) (a b : DE) (es : ES) (h : EH) : dOp (d2or f g) a b es h = dOp f a b es h ∨ dOp (d2or f g) a b es h = dOp g a b es h := by
  unfold dOp
  cases a es h with
  | ok x h1 =>
    simp only [bind_ok]
    cases b es h1 with
    | ok y h2 =>
      simp only [bind_ok]
      unfold d2or
      cases q : f x y h2 with
      | no => right; rfl
      | ok v h' => left; rfl
      | er x h' => left; rfl
    | er x h2 => left; rfl
    | no => left; rfl
  | er x h1 => left; rfl
  | no => left; rfl
section
variable {X : Cx} {ct : Nat → Addr × List Str} {E : XK} {G : Gx} {a b : Expr} {da db : DE} {pos : Pos}
theorem xe_alt {e : Expr} {d d' d2 : DE} (h : PEd X ct E e d) (h' : PEd X ct E e d') (hd : ∀ es h, d2 es h = d es h ∨ d2 es h = d' es h) : PEd X ct E e d2 := by
  obtain ⟨t, a1, a2⟩ := h
  obtain ⟨t', b1, b2⟩ := h'
  refine ⟨fun σ H Q => t σ H Q ∨ t' σ H Q, ⟨fun pins s σ H Q I q => ?_⟩, fun ρ σ H es eh Q rel hw => ?_⟩
  · rcases q with q | q
    · exact a1.run pins s σ H Q I q
    · exact b1.run pins s σ H Q I q
  · rcases hd es eh with q | q
    · rw [q] at hw
      exact .inl (a2 ρ σ H es eh Q rel hw)
    · rw [q] at hw
      exact .inr (b2 ρ σ H es eh Q rel hw)
theorem xe_dget (hu : X.A.units + 1 < cLine) (ha : PEd X ct E a da) (hb : PEd X ct E b db) (hs : NoSl b := by exact fun _ _ => rfl) : PEd X ct E (.Subscript a b pos) (dOp fDGet da db) := by
  obtain ⟨t, a1, a2⟩ := ha
  obtain ⟨u, b1, b2⟩ := hb
  refine ⟨_, pe_dget hu a1 b1 hs, fun ρ σ H es eh Q rel h => ?_⟩
  refine a2.bind rel h fun ρ1 H1 x eh1 v e1 rel1 v1 h1 => ?_
  refine b2.bind rel1 h1 fun ρ2 H2 y eh2 w e2 rel2 v2 h2 => ?_
  unfold fDGet at h2
  split at h2
  · rename_i n
    split at h2
    · rename_i t kvs e3
      split at h2
      · rename_i z e4
        obtain ⟨p, uo, g1, g2, g3⟩ := dic_of rel2.hr e3
        obtain ⟨p', q1, rfl⟩ := vr_ref.mp (v1.mono e2)
        rw [g1] at q1; cases q1
        obtain ⟨ov, k1, k2⟩ := dget_of g2 g3 e4 v2
        cases ov with
        | none => exact k2.elim
        | some zz => exact ⟨p, zz, rfl, k1, h2 ρ2 H2 _ (Ext.refl _ _ _) rel2.hr k2⟩
      · exact h2.elim
    · exact h2.elim
  · exact h2.elim
theorem xe_ixd {f : D2} (hu : X.A.units + 1 < cLine) (hf : Ixd X ct E f) (ha : PEd X ct E a da) (hb : PEd X ct E b db) (hs : PlainIx b := by exact fun _ _ => rfl) (hs2 : NoSl b := by exact fun _ _ => rfl) : PEd X ct E (.Subscript a b pos) (dOp (d2or f fDGet) da db) :=
  xe_alt (xe_ix hf ha hb hs) (xe_dget hu ha hb hs2) fun es h => dOp_or _ _ _ _ es h
theorem o_dIn (hu : X.A.units + 1 < cLine) : Opd X ct E (compareOp .In) (fDIn false) := ⟨fun y x H Q => ∃ a o, x = .ref a ∧ DGet H a y o ∧ Q (.bl o.isSome) H, by
  rintro pins s σ H y x v u Q I ry rx ⟨a, o, rfl, g, q⟩
  obtain rfl : u = Value.ref a := rx
  exact d_in hu I g ry fun s3 I3 => ⟨.bl o.isSome, H, I3, rfl, q⟩, fun ρ H eh x y v w Q hr hx hy h => by
  unfold fDIn at h
  split at h
  · rename_i n
    split at h
    · rename_i t kvs e3
      split at h
      · rename_i o e4
        obtain ⟨p, uo, g1, g2, g3⟩ := dic_of hr e3
        obtain ⟨p', q1, rfl⟩ := vr_ref.mp hy
        rw [g1] at q1; cases q1
        obtain ⟨ov, k1, k2⟩ := dget_of g2 g3 e4 hx
        exact ⟨p, ov, rfl, k1, h ρ H _ (Ext.refl _ _ _) hr (vr_bl.mpr (by rw [k2.isSome]; simp))⟩
      · exact h.elim
    · exact h.elim
  · exact h.elim⟩
theorem o_dNotIn (hu : X.A.units + 1 < cLine) : Opd X ct E (compareOp .NotIn) (fDIn true) := ⟨fun y x H Q => ∃ a o, x = .ref a ∧ DGet H a y o ∧ Q (.bl (!o.isSome)) H, by
  rintro pins s σ H y x v u Q I ry rx ⟨a, o, rfl, g, q⟩
  obtain rfl : u = Value.ref a := rx
  exact d_notIn hu I g ry fun s3 I3 => ⟨.bl (!o.isSome), H, I3, rfl, q⟩, fun ρ H eh x y v w Q hr hx hy h => by
  unfold fDIn at h
  split at h
  · rename_i n
    split at h
    · rename_i t kvs e3
      split at h
      · rename_i o e4
        obtain ⟨p, uo, g1, g2, g3⟩ := dic_of hr e3
        obtain ⟨p', q1, rfl⟩ := vr_ref.mp hy
        rw [g1] at q1; cases q1
        obtain ⟨ov, k1, k2⟩ := dget_of g2 g3 e4 hx
        exact ⟨p, ov, rfl, k1, h ρ H _ (Ext.refl _ _ _) hr (vr_bl.mpr (by rw [k2.isSome]; simp))⟩
      · exact h.elim
    · exact h.elim
  · exact h.elim⟩
theorem set_dic (hu : X.A.units + 1 < cLine) : PSetd X ct E sDic := ⟨_, set_dict hu, fun ρ H eh o i x a b c Q hr ho hi hx h => by
  unfold sDic at h
  split at h
  · rename_i n
    split at h
    · rename_i t kvs e3
      split at h
      · rename_i kvs' e4
        split at h
        · rename_i hl
          obtain ⟨p, H', g1, g2, g3, g4⟩ := dput_of hr e3 e4 hl hi hx
          obtain ⟨p', q1, rfl⟩ := vr_ref.mp ho
          rw [g1] at q1; cases q1
          exact ⟨p, H', rfl, g2, h ρ H' () g3 g4 trivial⟩
        · exact h.elim
      · exact h.elim
    · exact h.elim
  · exact h.elim⟩
def dNewD (t : Bool) : DE := fun _ h => .ok (.ref h.length) (h ++ [.dic t []])
theorem xe_dnew (t : Bool) : PEd X ct E (.Dict [] [] pos) (dNewD t) := by
  have key : ∀ (u : HO), DR (VR X.K [] fun _ => none) t [] u → (∀ ρ H, DR (VR X.K ρ H) t [] u) → ∀ (ρ : Rho) (σ : L2.St) (H : Hp) (es : ES) (eh : EH) (Q : VK), Rel ⟨X.K, ct⟩ ρ σ H es eh → wr ⟨X.K, ct⟩ (VR X.K) ρ H (dNewD t es eh) Q E → ∀ p, H p = none → Q (.ref p) (upd H p u) := fun u _ hu ρ σ H es eh Q rel h p hp => by
    exact h (ρ ++ [(true, p)]) _ _ (Ext.alloc _ hp) (rel.hr.alloc (o := .dic t []) hp rfl ⟨u, upd_same, hu _ _⟩) (vr_ref.mpr ⟨p, last_get rel.hr.len, rfl⟩)
  cases t with
  | false => exact ⟨_, pe_dnewK, key (.dK []) ⟨[], rfl, rfl⟩ fun _ _ => ⟨[], rfl, rfl⟩⟩
  | true => exact ⟨_, pe_dnewT, key (.dT []) ⟨[], rfl, rfl⟩ fun _ _ => ⟨[], rfl, rfl⟩⟩
def mPopT : EV → DL := fun x xs h => match x, xs with
  | .ref n, [y, z] => match mdicAt h n, tkeyOf y with
    | some (true, kvs), some k => match dval tkeyOf kvs k with
      | some v => .ok v (h.set n (.dic true (ddrop tkeyOf kvs k)))
      | none => .ok z h
    | _, _ => .no
  | _, _ => .no
theorem m_popT (hu : X.A.units + 1 < cLine) : Mtd X ct E "dict.pop" mPopT := ⟨_, L2.DX.mt_popT hu, fun ρ H eh x a xs as Q hr hx hxs h => by
  unfold mPopT at h
  split at h
  · rename_i n y z
    split at h
    · rename_i kvs k e1 e2
      obtain ⟨p, u, g1, g2, g3, g4⟩ := mdic_of hr e1
      obtain ⟨l, rfl, hk⟩ := g3
      obtain ⟨p', q1, rfl⟩ := vr_ref.mp hx
      rw [g1] at q1; cases q1
      obtain ⟨v, w, rfl, hv, hw⟩ := vrs_two hxs
      obtain ⟨b, rfl, hb⟩ := tkeyOf_eq e2 hv
      have hval := hk.val k
      refine ⟨p, l, k, b, w, rfl, rfl, g2, hb, fun v0 hv0 => ?_, fun hn => ?_⟩
      · rw [hv0] at hval
        split at h
        · rename_i ve e3
          rw [e3] at hval
          obtain ⟨e, hr'⟩ := put_dic (t := true) (kvs := kvs) (kvs' := ddrop tkeyOf kvs k) (u' := .dT (dropK l k)) hr g4 g2 ⟨l, rfl, hk⟩ ⟨_, rfl, hk.drop k⟩
          exact h ρ _ _ e hr' (VR.mono e _ _ hval)
        · rename_i e3
          rw [e3] at hval
          exact hval.elim
      · rw [hn] at hval
        split at h
        · rename_i ve e3
          rw [e3] at hval
          exact hval.elim
        · exact h ρ _ _ (Ext.refl _ _ _) hr hw
    · exact h.elim
  · exact h.elim⟩
def dBMD (f : EV → DL) (o : DE) (a : DA) : DE := fun es h => (o es h).bind fun x h1 => match x with
  | .ref n => match mdicAt h1 n with
    | some _ => (a es h1).bind fun xs h2 => f x xs h2
    | none => .no
  | _ => .no
theorem DR.ty {R : EV → V → Prop} {H : Hp} {a : Addr} (K : Fg) : ∀ {t : Bool} {kvs : List (EV × EV)} {u : HO}, H a = some u → DR R t kvs u → tyV K "dict" (.ref a) H
  | false, _, _, e, ⟨l, q, _⟩ => by subst q; exact .inr (.inr (.inl ⟨rfl, .inl ⟨_, e⟩⟩))
  | true, _, _, e, ⟨l, q, _⟩ => by subst q; exact .inr (.inr (.inl ⟨rfl, .inr ⟨_, e⟩⟩))
theorem snd_bmD {r : V → List V → Hp → VK → Prop} {f : EV → DL} {to : TE} {ta : TA} {o : DE} {a : DA} (hr : SndM G E r f) (ho : SndE G E to o) (ha : SndA G E ta a) : SndE G E (tBM G.K "dict" r to ta) (dBMD f o a) := fun ρ σ H es eh Q rel h => by
  refine ho.bind rel h fun ρ1 H1 x eh1 u e1 rel1 v1 h1 => ?_
  cases x with
  | ref n =>
    simp only at h1
    split at h1
    · rename_i tk e2
      obtain ⟨a1, vs, g1, g2, g3, _⟩ := mdic_of rel1.hr e2
      obtain ⟨a', q1, rfl⟩ := vr_ref.mp v1
      rw [g1] at q1; cases q1
      refine ⟨g3.ty _ g2, ha.bind rel1 h1 fun ρ2 H2 xs eh2 us e2 rel2 v2 h2 => ?_⟩
      exact hr ρ2 H2 eh2 _ _ xs us Q rel2.hr (v1.mono e2) v2 h2
    · exact h1.elim
  | _ => exact h1.elim
variable {e e' : Expr} {dr : DA}
theorem xe_popT {apos cpos : Pos} (hu : X.A.units + 1 < cLine) (ho : PEd X ct E a da) (ha : PAd X ct E [e, e'] dr)
    (hbase : attributeBase a "pop" X.env (eval a X.env) = eval a X.env := by rfl)
    (hfew : ((backTo cpos (starEach [e, e'] X.env)).all (fun x => !x.1) && (backToKw cpos (keywordEach [] X.env)).all (fun x => x.1.isSome)
      && decide ([e, e'].length + ([] : List Keyword).length + (if ([] : List Keyword).isEmpty then 0 else 1) < 30)) = true := by rfl)
    (hline : (apos.endLine == cpos.line) = true := by rfl) (hs : starEach [e, e'] X.env = (false, eval e X.env) :: starEach [e'] X.env := by rfl) (hplain : (backTo cpos (starEach [e'] X.env)).any (·.1) = false := by rfl) :
    PEd X ct E (.Call (.Attribute a "pop" apos) [e, e'] [] cpos) (dBMD mPopT da dr) := by
  obtain ⟨r, m1, m2⟩ := m_popT (X := X) (ct := ct) (E := E) hu
  obtain ⟨t, a1, a2⟩ := ho
  obtain ⟨u, b1, b2⟩ := ha
  exact ⟨_, pe_bm PySem.F.plainAttrs_dict PySem.F.slot_dict_pop PySem.F.type_dict_pop m1 a1 b1 hbase hfew hline hs hplain, snd_bmD m2 a2 b2⟩
end
end EE
set_option Elab.async false
set_option linter.all false
set_option maxRecDepth 100000
set_option maxHeartbeats 1000000
namespace EE
open PySem PySem.Spec PyProof.Rows L2
structure Cd (K : Fg) (cn : Addr × List Str) : Prop where
  cl : Cls K cn.1
  no : ∀ m ∈ cn.2, NoAttr K cn.1 m
  nd : cn.2.Nodup
  few : cn.2.length < 100
theorem putF_len {f : Str} {y : V} : ∀ {l : List (Str × V)} {v : V}, l.lookup f = some v → (putF f y l).length = l.length
  | [], _, h => by simp at h
  | (g, x) :: r, v, h => by
    unfold putF
    by_cases e : g = f
    · rw [if_pos e, List.length_cons, List.length_cons]
    · rw [if_neg e, List.length_cons, List.length_cons, putF_len (v := v)]
      rw [List.lookup_cons] at h
      have : (f == g) = false := by simpa using fun z => e z.symm
      rw [this] at h
      exact h
def cnt (fs : List (Option EV)) : Nat := (fs.filter fun z => z.isSome).length
theorem cnt_le (fs : List (Option EV)) : cnt fs ≤ fs.length := List.length_filter_le _ _
theorem cnt_set : ∀ {fs : List (Option EV)} {i : Nat} (v : EV), i < fs.length → cnt fs ≤ cnt (fs.set i (some v)) ∧ (fs[i]? = some none → cnt fs + 1 ≤ cnt (fs.set i (some v)))
  | [], i, v, h => by simp at h
  | x :: fs, 0, v, h => by
    unfold cnt
    cases x with
    | none => simp [List.filter_cons]
    | some x => simp [List.filter_cons]
  | x :: fs, i + 1, v, h => by
    have ih := cnt_set (fs := fs) (i := i) v (by simpa using h)
    unfold cnt at ih ⊢
    simp only [List.set_cons_succ, List.getElem?_cons_succ]
    cases x with
    | none => rw [List.filter_cons_of_neg (by simp), List.filter_cons_of_neg (by simp)]; exact ih
    | some x =>
      rw [List.filter_cons_of_pos (by rfl), List.filter_cons_of_pos (by rfl), List.length_cons, List.length_cons]
      exact ⟨by omega, fun z => by have := ih.2 z; omega⟩
theorem nodup_at {l : List Str} (h : l.Nodup) {i j : Nat} {m : Str} (hi : l[i]? = some m) (hj : l[j]? = some m) : i = j := by
  obtain ⟨i1, i2⟩ := List.getElem?_eq_some_iff.mp hi
  obtain ⟨j1, j2⟩ := List.getElem?_eq_some_iff.mp hj
  have key := List.pairwise_iff_getElem.mp h
  rcases Nat.lt_trichotomy i j with z | z | z
  · exact absurd (i2.trans j2.symm) (key i j i1 j1 z)
  · exact z
  · exact absurd (j2.trans i2.symm) (key j i j1 i1 z)
def objAt (c : Nat) (h : EH) (n : Nat) : Option (List (Option EV)) := match h[n]? with
  | some (.obj c' fs) => if c' = c then some fs else none
  | _ => none
section
variable {G : Gx} {ρ : Rho} {H : Hp} {eh : EH} {n c : Nat}
theorem obj_of (hr : HR G ρ H eh) {fs : List (Option EV)} (h : objAt c eh n = some fs) : ∃ a dx l, adr ρ n = some a ∧ ρ[n]? = some (true, a) ∧ H a = some (.ins (G.ct c).1 dx l) ∧ fs.length = (G.ct c).2.length ∧ l.length ≤ cnt fs ∧
    (∀ (i : Nat) (x : Option EV), fs[i]? = some x → ∀ m, (G.ct c).2[i]? = some m → FR (VR G.K ρ H) x (l.lookup m)) ∧ ∀ m, m ∉ (G.ct c).2 → l.lookup m = none := by
  unfold objAt at h
  split at h
  · rename_i c' ys e
    split at h
    · rename_i hc
      cases h
      subst hc
      obtain ⟨a, h1, dx, l, h2, h3, h4, h5, h6⟩ := hr.obj n _ e
      exact ⟨a, dx, l, adr_of h1, h1, h2, h3, h4, h5, h6⟩
    · cases h
  · cases h
theorem put_fld (hr : HR G ρ H eh) (hc : Cd G.K (G.ct c)) {fs : List (Option EV)} {i : Nat} {f : Str} {v : EV} {y : V} {a dx : Addr} {l : List (Str × V)} (hi : (G.ct c).2[i]? = some f) (hn : ρ[n]? = some (true, a)) (ha : H a = some (.ins (G.ct c).1 dx l)) (h3 : fs.length = (G.ct c).2.length)
    (h4 : l.length ≤ cnt fs) (h5 : ∀ (i : Nat) (x : Option EV), fs[i]? = some x → ∀ m, (G.ct c).2[i]? = some m → FR (VR G.K ρ H) x (l.lookup m)) (h6 : ∀ m, m ∉ (G.ct c).2 → l.lookup m = none) (hv : VR G.K ρ H v y) :
    Ext G.K ρ ρ H (upd H a (.ins (G.ct c).1 dx (putF f y l))) ∧ HR G ρ (upd H a (.ins (G.ct c).1 dx (putF f y l))) (eh.set n (.obj c (fs.set i (some v)))) := by
  have e : Ext G.K ρ ρ H (upd H a (.ins (G.ct c).1 dx (putF f y l))) := Ext.write _ hn ha (fun _ z => by cases z) (fun _ _ z => by cases z) pln_ins
  have hil : i < fs.length := by rw [h3]; exact (List.getElem?_eq_some_iff.mp hi).1
  refine ⟨e, hr.write hn rfl e ⟨dx, _, upd_same, by rw [List.length_set]; exact h3, ?_, fun j x hx m hm => ?_, fun m hm => ?_⟩⟩
  · show _ ≤ cnt _
    obtain ⟨c1, c2⟩ := cnt_set (fs := fs) (i := i) v hil
    have hf := h5 i fs[i] (List.getElem?_eq_getElem hil) f hi
    cases q : fs[i] with
    | none =>
      have := c2 (by rw [List.getElem?_eq_getElem hil, q])
      have := length_putF f y l
      omega
    | some z =>
      rw [q] at hf
      cases w : l.lookup f with
      | none => rw [w] at hf; exact hf.elim
      | some z' => rw [putF_len w]; omega
  · rw [lookup_putF]
    by_cases hj : i = j
    · subst hj
      rw [List.getElem?_set_self hil] at hx
      cases hx
      rw [hi] at hm
      cases hm
      rw [if_pos rfl]
      exact VR.mono e _ _ hv
    · rw [List.getElem?_set_ne hj] at hx
      have hmf : m ≠ f := fun z => hj (by
        subst z
        exact nodup_at hc.nd hi hm)
      rw [if_neg hmf]
      exact (h5 j x hx m hm).mono fun x v => VR.mono e x v
  · rw [lookup_putF, if_neg (show ¬ m = f from fun z => hm (by rw [z]; exact List.mem_of_getElem? hi))]
    exact h6 m hm
end
def dFld (c i : Nat) (o : DE) : DE := fun es h => (o es h).bind fun x h1 => match x with
  | .ref n => match objAt c h1 n with
    | some fs => match fs[i]? with
      | some (some v) => .ok v h1
      | _ => .no
    | none => .no
  | _ => .no
def dSetF (c i : Nat) (o v : DE) : DS := fun es h => (v es h).bind fun y h1 => (o es h1).bind fun x h2 => match x with
  | .ref n => match objAt c h2 n with
    | some fs => .ok (.nx es) (h2.set n (.obj c (fs.set i (some y))))
    | none => .no
  | _ => .no
def dAugF (c i : Nat) (f : D2) (o v : DE) : DS := fun es h => (o es h).bind fun x h1 => match x with
  | .ref n => match objAt c h1 n with
    | some fs => match fs[i]? with
      | some (some w) => (v es h1).bind fun y h2 => (f w y h2).bind fun z h3 => match objAt c h3 n with
        | some fs' => .ok (.nx es) (h3.set n (.obj c (fs'.set i (some z))))
        | none => .no
      | _ => .no
    | none => .no
  | _ => .no
def dMeth (c : Nat) (fn : DL) (o : DE) (a : DA) : DE := fun es h => (o es h).bind fun x h1 => match x with
  | .ref n => match objAt c h1 n with
    | some _ => (a es h1).bind fun xs h2 => (fn (x :: xs) h2).noer
    | none => .no
  | _ => .no
def dMake (c nf : Nat) (fn : DL) (a : DA) : DE := fun es h => (a es h).bind fun xs h1 => (fn (.ref h1.length :: xs) (h1 ++ [.obj c (List.replicate nf none)])).noer.bind fun v h2 => match v with
  | .non => .ok (.ref h1.length) h2
  | _ => .no
section
variable {X : Cx} {ct : Nat → Addr × List Str} {E : XK} {e o : Expr} {es : List Expr} {pos p : Pos} {d dv : DE} {dr : DA} {f : Str}
theorem xe_fld (c i : Nat) (hc : Cd X.K (ct c)) (hi : (ct c).2[i]? = some f) (ho : PEd X ct E o d) (hb : attributeBase o f X.env (eval o X.env) = eval o X.env := by rfl) : PEd X ct E (.Attribute o f pos) (dFld c i d) := by
  obtain ⟨t, h1, h2⟩ := ho
  refine ⟨_, pe_fld h1 hb, fun ρ σ H es eh Q rel h => ?_⟩
  refine h2.bind rel h fun ρ1 H1 x eh1 u e1 rel1 v1 h1 => ?_
  split at h1
  · rename_i n
    split at h1
    · rename_i fs e2
      split at h1
      · rename_i v e3
        obtain ⟨a, dx, l, g1, g2, g3, g4, g5, g6, g7⟩ := obj_of rel1.hr e2
        obtain ⟨a', q1, rfl⟩ := vr_ref.mp v1
        rw [g1] at q1; cases q1
        have k := g6 i _ e3 f hi
        cases w : l.lookup f with
        | none => rw [w] at k; exact k.elim
        | some z =>
          rw [w] at k
          exact ⟨a, _, dx, l, z, rfl, g3, hc.cl, hc.no f (List.mem_of_getElem? hi), w, h1 ρ1 H1 _ (Ext.refl _ _ _) rel1.hr k⟩
      · exact h1.elim
    · exact h1.elim
  · exact h1.elim
theorem xs_fld {pos' : Pos} (c i : Nat) (hc : Cd X.K (ct c)) (hi : (ct c).2[i]? = some f) (ho : PEd X ct E o d) (hv : PEd X ct E e dv) (hs : swapsWith e (some (.Attribute o f pos')) pos.line X.env = pure false := by rfl) : PSd X ct E (.Assign [.Attribute o f pos'] e pos) (dSetF c i d dv) := by
  obtain ⟨t, h1, h2⟩ := ho
  obtain ⟨u, k1, k2⟩ := hv
  refine ⟨_, ps_fld h1 k1 hs, fun ρ σ H es eh D rel h => ?_⟩
  refine k2.bind rel h fun ρ1 H1 y eh1 w e1 rel1 v1 h1 => ?_
  refine h2.bind rel1 h1 fun ρ2 H2 x eh2 u e2 rel2 v2 h2 => ?_
  split at h2
  · rename_i n
    split at h2
    · rename_i fs e3
      obtain ⟨a, dx, l, g1, g2, g3, g4, g5, g6, g7⟩ := obj_of rel2.hr e3
      obtain ⟨a', q1, rfl⟩ := vr_ref.mp v2
      rw [g1] at q1; cases q1
      obtain ⟨e4, hr4⟩ := put_fld (v := y) rel2.hr hc hi g2 g3 g4 g5 g6 g7 (v1.mono e2)
      refine ⟨a, _, dx, l, rfl, g3, hc.cl, hc.no f (List.mem_of_getElem? hi), ?_, h2 ρ2 _ (.nx σ) e4 hr4 (rel2.sl.mono e4)⟩
      have := cnt_le fs
      have := hc.few
      have g4' : fs.length = (ct c).2.length := g4
      omega
    · exact h2.elim
  · exact h2.elim
theorem xs_fldaug {pos' : Pos} {op : Operator} {f2 : D2} (c i : Nat) (hc : Cd X.K (ct c)) (hi : (ct c).2[i]? = some f) (hop : Opd X ct E (inplaceOp op) f2) (ho : PEd X ct E o d) (hv : PEd X ct E e dv) : PSd X ct E (.AugAssign (.Attribute o f pos') op e pos) (dAugF c i f2 d dv) := by
  obtain ⟨t, h1, h2⟩ := ho
  obtain ⟨u, k1, k2⟩ := hv
  obtain ⟨r, r1, r2⟩ := hop
  refine ⟨_, ps_fldaug h1 k1 r1, fun ρ σ H es eh D rel h => ?_⟩
  refine h2.bind rel h fun ρ1 H1 x eh1 w e1 rel1 v1 h1 => ?_
  split at h1
  · rename_i n
    split at h1
    · rename_i fs e3
      split at h1
      · rename_i wv e4
        obtain ⟨a, dx, l, g1, g2, g3, g4, g5, g6, g7⟩ := obj_of rel1.hr e3
        obtain ⟨a', q1, rfl⟩ := vr_ref.mp v1
        rw [g1] at q1; cases q1
        have k := g6 i _ e4 f hi
        cases wl : l.lookup f with
        | none => rw [wl] at k; exact k.elim
        | some z =>
          rw [wl] at k
          refine ⟨a, _, dx, l, z, rfl, g3, hc.cl, hc.no f (List.mem_of_getElem? hi), wl, ?_⟩
          refine k2.bind rel1 h1 fun ρ2 H2 y eh2 yv e2 rel2 v2 h2 => ?_
          refine Snd2.bind r2 rel2.hr (VR.mono e2 _ _ k) v2 h2 fun ρ3 H3 zz eh3 zv e5 hr3 v3 h3 => ?_
          split at h3
          · rename_i fs' e6
            obtain ⟨a2, dx2, l2, j1, j2, j3, j4, j5, j6, j7⟩ := obj_of hr3 e6
            have ea : a2 = a := by
              have := (e2.trans e5).toExt0.get g1
              rw [j1] at this
              exact Option.some.inj this
            subst ea
            obtain ⟨e7, hr7⟩ := put_fld (v := zz) hr3 hc hi j2 j3 j4 j5 j6 j7 v3
            refine ⟨dx2, l2, j3, ?_, h3 ρ3 _ (.nx σ) e7 hr7 ((rel2.sl.mono e5).mono e7)⟩
            have := cnt_le fs'
            have := hc.few
            have j4' : fs'.length = (ct c).2.length := j4
            omega
          · exact h3.elim
      · exact h1.elim
    · exact h1.elim
  · exact h1.elim
end
section
variable {P : Program} {w : World} {K : PySem.W.Frag} {mg : Str → Option Value} {base : Heap} {ct : Nat → Addr × List Str}
def MethD (P : Program) (w : World) (K : Fg) (mg : Str → Option Value) (base : Heap) (ct : Nat → Addr × List Str) (k c : Nat) (m : Str) (fn : DL) : Prop := ∃ f fd ps, FnOk P w K mg base CX0 k f fd ps (spD0 ⟨K, ct⟩ fn) ∧ Meth K (ct c).1 m f ∧ Binds K fd ps []
def InitD (P : Program) (w : World) (K : Fg) (mg : Str → Option Value) (base : Heap) (ct : Nat → Addr × List Str) (k c : Nat) (fn : DL) : Prop := ∃ f fd ps, FnOk P w K mg base CX0 k f fd ps (spD0 ⟨K, ct⟩ fn) ∧ Mk K (ct c).1 f ∧ Binds K fd ps []
def TxM (K : Fg) (C : Addr) (m qual : Str) (st : Stmt) (ps : List Str) : Prop := ∃ f fd, Fun K m qual st f fd ∧ Meth K C m f ∧ Binds K fd ps []
def TxI (K : Fg) (C : Addr) (qual : Str) (st : Stmt) (ps : List Str) : Prop := ∃ f fd, Fun K "__init__" qual st f fd ∧ Mk K C f ∧ Binds K fd ps []
theorem methd_mk {c : Nat} {m qual : Str} {st : Stmt} {N ps : List Str} {k : Nat} {d : DS} (T : TxM K (ct c).1 m qual st ps) (S : FnScope N ps (defScope st))
    (h : ∀ (f : Addr) (cdv : Value) (A : Around) (outer : List Env) (s : Shared) (H : Hp) (E : XK), Room k (A.deeper (envOfC qual (defScope st) s.heap.objs.size f cdv)) → PSsd (cxOf CX0 P w K mg base N qual (defScope st) f cdv A outer s H E).nox ct E0 (defBody st) d) :
    MethD P w K mg base ct (k + 1) c m (dDef ps.length N.length d) := by
  obtain ⟨f, fd, F, hm, hb⟩ := T
  exact ⟨f, fd, ps, fn_d F S (h f), hm, hb⟩
theorem initd_mk {c : Nat} {qual : Str} {st : Stmt} {N ps : List Str} {k : Nat} {d : DS} (T : TxI K (ct c).1 qual st ps) (S : FnScope N ps (defScope st))
    (h : ∀ (f : Addr) (cdv : Value) (A : Around) (outer : List Env) (s : Shared) (H : Hp) (E : XK), Room k (A.deeper (envOfC qual (defScope st) s.heap.objs.size f cdv)) → PSsd (cxOf CX0 P w K mg base N qual (defScope st) f cdv A outer s H E).nox ct E0 (defBody st) d) :
    InitD P w K mg base ct (k + 1) c (dDef ps.length N.length d) := by
  obtain ⟨f, fd, F, hm, hb⟩ := T
  exact ⟨f, fd, ps, fn_d F S (h f), hm, hb⟩
theorem MethD.mono {j k c : Nat} {x : Str} {fn : DL} (F : MethD P w K mg base ct j c x fn) (h : j ≤ k) : MethD P w K mg base ct k c x fn := by
  obtain ⟨f, fd, ps, h1, h2⟩ := F
  exact ⟨f, fd, ps, h1.mono h, h2⟩
theorem InitD.mono {j k c : Nat} {fn : DL} (F : InitD P w K mg base ct j c fn) (h : j ≤ k) : InitD P w K mg base ct k c fn := by
  obtain ⟨f, fd, ps, h1, h2⟩ := F
  exact ⟨f, fd, ps, h1.mono h, h2⟩
end
section
variable {X : Cx} {ct : Nat → Addr × List Str} {E : XK} {e o : Expr} {es : List Expr} {pos p apos : Pos} {d : DE} {dr : DA} {m : Str}
theorem snd_meth {c k : Nat} {fn : DL} {to : TE} {ta : TA} (hn : m ∉ (ct c).2) (ho : SndE ⟨X.K, ct⟩ E to d) (ha : SndA ⟨X.K, ct⟩ E ta dr) : SndE ⟨X.K, ct⟩ E (tMeth (ct c).1 m (spD0 ⟨X.K, ct⟩ fn) [] E0 to ta) (dMeth c fn d dr) := fun ρ σ H es eh Q rel h => by
  refine ho.bind rel h fun ρ1 H1 x eh1 u e1 rel1 v1 h1 => ?_
  split at h1
  · rename_i n
    split at h1
    · rename_i fs e3
      obtain ⟨a, dx, l, g1, g2, g3, g4, g5, g6, g7⟩ := obj_of rel1.hr e3
      have v1' := v1
      obtain ⟨a', q1, rfl⟩ := vr_ref.mp v1
      rw [g1] at q1; cases q1
      refine ⟨a, dx, l, rfl, g3, g7 m hn, ?_⟩
      refine ha.bind rel1 h1 fun ρ2 H2 xs eh2 us e2 rel2 v2 h2 => ?_
      exact ⟨ρ2, .ref n :: xs, eh2, by rw [List.append_nil]; exact vrs_cons.mpr ⟨.ref a, us, rfl, VR.mono e2 _ _ v1', v2⟩, rel2.hr, wr_noer h2⟩
    · exact h1.elim
  · exact h1.elim
theorem xe_meth (c : Nat) {k : Nat} {fn : DL} (pl : Sem Bool) (hc : Cd X.K (ct c)) (F : MethD X.prog X.w X.K X.mg X.base ct k c m fn) (hr : Room k X.A) (hn : m ∉ (ct c).2) (ho : PEd X ct E o d) (ha : PAd X ct E (e :: es) dr)
    (hst : starEach (e :: es) X.env = (false, eval e X.env) :: starEach es X.env := by rfl) (hpl : (backTo pos (starEach es X.env)).any (·.1) = false := by rfl)
    (ht : eval (.Call (.Attribute o m apos) (e :: es) [] pos) X.env = (do
      let ov ← eval o X.env
      standAt apos.atName
      let (f, first) ← holding [ov] (getMethod ov m pl)
      callWith pos f first (backTo pos (starEach (e :: es) X.env)) (backToKw pos (keywordEach [] X.env))) := by rfl) :
    PEd X ct E (.Call (.Attribute o m apos) (e :: es) [] pos) (dMeth c fn d dr) := by
  obtain ⟨f, fd, ps, h1, hm, hb⟩ := F
  obtain ⟨t, a1, a2⟩ := ho
  obtain ⟨u, b1, b2⟩ := ha
  exact ⟨_, pe_meth (pl := pl) a1 hc.cl hm h1 hr hb .nil pass0 b1 hst hpl ht, snd_meth (k := k) hn a2 b2⟩
theorem xe_meth0 (c : Nat) {k : Nat} {fn : DL} (pl : Sem Bool) (hc : Cd X.K (ct c)) (F : MethD X.prog X.w X.K X.mg X.base ct k c m fn) (hr : Room k X.A) (hn : m ∉ (ct c).2) (ho : PEd X ct E o d)
    (ht : eval (.Call (.Attribute o m apos) [] [] pos) X.env = (do
      let ov ← eval o X.env
      standAt apos.atName
      let (f, first) ← holding [ov] (getMethod ov m pl)
      callWith pos f first (backTo pos (starEach [] X.env)) (backToKw pos (keywordEach [] X.env))) := by rfl) :
    PEd X ct E (.Call (.Attribute o m apos) [] [] pos) (dMeth c fn d dNil) := by
  obtain ⟨f, fd, ps, h1, hm, hb⟩ := F
  obtain ⟨t, a1, a2⟩ := ho
  exact ⟨_, pe_meth0 (pl := pl) a1 hc.cl hm h1 hr hb .nil pass0 ht, snd_meth (k := k) hn a2 snd_nil⟩
theorem xe_make (c : Nat) {k : Nat} {x : Str} {fn : DL} (F : InitD X.prog X.w X.K X.mg X.base ct k c fn) (hr : Room (k + 1) X.A) (hg : Gl X x) (hm : X.mg x = some (.ref (ct c).1)) (ha : PAd X ct E (e :: es) dr)
    (hdb : (x == ("__debug__" : Str)) = false := by decide) (he : starEach (e :: es) X.env = (false, eval e X.env) :: starEach es X.env := by rfl) (hpl : (backTo pos (starEach es X.env)).any (·.1) = false := by rfl) :
    PEd X ct E (.Call (.Name x p) (e :: es) [] pos) (dMake c (ct c).2.length fn dr) := by
  obtain ⟨f, fd, ps, h1, hM, hb⟩ := F
  obtain ⟨u, b1, b2⟩ := ha
  refine ⟨_, pe_make hM h1 hr hg hm hb .nil pass0 b1 hdb he hpl, fun ρ σ H es eh Q rel h => ?_⟩
  refine b2.bind rel h fun ρ1 H1 xs eh1 us e1 rel1 v1 h1 => ?_
  intro a dx na ndx nex
  have nadx : a ≠ dx := fun z => nex z.symm
  have hr1 := rel1.hr.side (HO.own a) ndx
  have e2 : Ext X.K ρ1 ρ1 H1 (upd H1 dx (.own a)) := Ext.side _ ndx
  have na2 : upd H1 dx (.own a) a = none := by rw [upd_ne nadx]; exact na
  have e3 : Ext X.K ρ1 (ρ1 ++ [(true, a)]) (upd H1 dx (.own a)) (upd (upd H1 dx (.own a)) a (.ins (ct c).1 dx [])) := Ext.alloc _ na2
  have ho : OR ⟨X.K, ct⟩ (ρ1 ++ [(true, a)]) (upd (upd H1 dx (.own a)) a (.ins (ct c).1 dx [])) (.obj c (List.replicate (ct c).2.length none)) a := by
    refine ⟨dx, [], upd_same, by simp, by simp, fun i x hx m hm => ?_, fun m _ => rfl⟩
    rw [List.getElem?_replicate] at hx
    split at hx
    · cases hx; exact True.intro
    · cases hx
  have hr3 := hr1.alloc na2 rfl ho
  have hl := rel1.hr.len
  have hv : VR X.K (ρ1 ++ [(true, a)]) (upd (upd H1 dx (.own a)) a (.ins (ct c).1 dx [])) (.ref eh1.length) (.ref a) := vr_ref.mpr ⟨a, last_get hl, rfl⟩
  refine ⟨ρ1 ++ [(true, a)], .ref eh1.length :: xs, eh1 ++ [.obj c (List.replicate (ct c).2.length none)], ?_, hr3, ?_⟩
  · rw [List.append_nil]
    exact vrs_cons.mpr ⟨.ref a, us, rfl, hv, VRs.mono (e2.trans e3) _ _ v1⟩
  · have h2 := h1.mono (e2.trans e3)
    cases q : fn (.ref eh1.length :: xs) (eh1 ++ [.obj c (List.replicate (ct c).2.length none)]) with
    | no => rw [q] at h2; exact h2
    | er z h' => rw [q] at h2; exact h2.elim
    | ok v h' =>
      rw [q] at h2
      intro ρ4 H4 vv e4 hr4 r4
      simp only [noer_ok, bind_ok] at h2
      split at h2
      · exact ⟨vr_non.mp r4, h2 ρ4 H4 (.ref a) e4 hr4 (VR.mono e4 _ _ hv)⟩
      · exact h2.elim
end
end EE
set_option Elab.async false
set_option linter.all false
set_option maxRecDepth 100000
set_option maxHeartbeats 1000000
namespace EE
open PySem PySem.Spec PyProof.Rows L2
def Tx2 (H H' : Hp) : Prop := (∀ a xs, H a = some (.tup xs) → H' a = some (.tup xs)) ∧ ∀ a fs, H a = some (.xd fs) → H' a = some (.xd fs)
section
variable {K : Fg} {ρ : Rho} {H H' : Hp}
mutual
theorem VR.monoT (ht : Tx2 H H') : ∀ (x : EV) (v : V), VR K ρ H x v → VR K ρ H' x v
  | .non, v, h => by simp only [VR] at h ⊢; exact h
  | .bl b, v, h => by simp only [VR] at h ⊢; exact h
  | .int i, v, h => by simp only [VR] at h ⊢; exact h
  | .str s, v, h => by simp only [VR] at h ⊢; exact h
  | .ty n, v, h => by simp only [VR] at h ⊢; exact h
  | .exc a d nm fs, v, h => by
    simp only [VR] at h ⊢
    obtain ⟨h1, vs, h2, h3⟩ := h
    exact ⟨h1, vs, VRs.monoT ht fs vs h2, fun dd hd => ht.2 _ _ (h3 dd hd)⟩
  | .ref n, v, h => by simp only [VR] at h ⊢; exact h
  | .tup xs, v, h => by
    simp only [VR] at h ⊢
    obtain ⟨a, vs, h1, h2, h3⟩ := h
    exact ⟨a, vs, h1, ht.1 _ _ h2, VRs.monoT ht xs vs h3⟩
theorem VRs.monoT (ht : Tx2 H H') : ∀ (xs : List EV) (vs : List V), VRs K ρ H xs vs → VRs K ρ H' xs vs
  | [], vs, h => by simp only [VRs] at h ⊢; exact h
  | x :: xs, vs, h => by
    simp only [VRs] at h ⊢
    obtain ⟨v, r, h1, h2, h3⟩ := h
    exact ⟨v, r, h1, VR.monoT ht x v h2, VRs.monoT ht xs r h3⟩
end
end
section
variable {G : Gx} {ρ ρ' : Rho} {H H' : Hp} {eh : EH} {n : Nat} {a : Addr} {u : HO} {od : Obj} {t : Bool} {kvs : List (EV × EV)}
theorem OR.keepT (ht : Tx2 H H') (hq : ∀ b vs, RoL G.K H b vs → RoL G.K H' b vs) {o : EO} {b : Addr} (hb : o.mu = true → H' b = H b) (h : OR G ρ H o b) : OR G ρ H' o b := by
  have m := fun x v => VR.monoT (K := G.K) (ρ := ρ) ht x v
  cases o with
  | lst xs =>
    obtain ⟨vs, h1, h2⟩ := h
    exact ⟨vs, by rw [hb rfl]; exact h1, VRs.monoT ht _ _ h2⟩
  | ro xs =>
    obtain ⟨vs, h1, h2⟩ := h
    exact ⟨vs, hq _ _ h1, VRs.monoT ht _ _ h2⟩
  | dic t kvs =>
    obtain ⟨u, h1, h2⟩ := h
    exact ⟨u, by rw [hb rfl]; exact h1, h2.mono m⟩
  | lkd t kvs =>
    obtain ⟨f, u, h1, h2⟩ := h
    exact ⟨f, u, by rw [hb rfl]; exact h1, h2.mono m⟩
  | obj c fs =>
    obtain ⟨dx, l, h1, h2, h3, h4, h5⟩ := h
    exact ⟨dx, l, by rw [hb rfl]; exact h1, h2, h3, fun i x hx n hn => (h4 i x hx n hn).mono m, h5⟩
theorem DR.nlst {R : EV → V → Prop} : ∀ {t : Bool} {kvs : List (EV × EV)} {u : HO}, DR R t kvs u → ∀ xs, u ≠ .lst xs
  | false, _, _, ⟨l, e, q⟩, _, z => by subst e; cases z
  | true, _, _, ⟨l, e, q⟩, _, z => by subst e; cases z
theorem lock_dic (hr : HR G ρ H eh) (hn : ρ[n]? = some (true, a)) (ha : H a = some u) (hd : DR (VR G.K ρ H) t kvs u) (od : Obj) : Ext G.K ρ ρ H (upd H a (.frz od u)) ∧ HR G ρ (upd H a (.frz od u)) (eh.set n (.lkd t kvs)) := by
  have e : Ext G.K ρ ρ H (upd H a (.frz od u)) := Ext.write _ hn ha hd.ntup hd.nfrz hd.pln
  exact ⟨e, hr.write hn rfl e ⟨od, u, upd_same, hd.mono fun x v => VR.mono e x v⟩⟩
theorem unlock_ext (hn : (true, a) ∈ ρ) (ha : H a = some u) (h1 : ∀ xs, u ≠ .tup xs) (h2 : ∀ o v, u ≠ .frz o v) (h3 : NoTb u) (e : Ext G.K ρ ρ' (upd H a (.frz od u)) H') : Ext G.K ρ ρ' H (upd H' a u) where
  pre := e.pre
  tup := fun b xs h => by
    have nb : b ≠ a := fun z => by subst z; rw [ha] at h; cases h; exact h1 _ rfl
    rw [upd_ne nb]
    exact e.tup _ _ (by rw [upd_ne nb]; exact h)
  frz := fun b o v h => by
    have nb : b ≠ a := fun z => by subst z; rw [ha] at h; cases h; exact h2 _ _ rfl
    rw [upd_ne nb]
    exact e.frz _ _ _ (by rw [upd_ne nb]; exact h)
  new := fun b hb => by
    rcases e.new b hb with z | z
    · exact .inl z
    · right
      intro o ho
      by_cases nb : b = a
      · subst nb
        obtain ⟨ps, q⟩ := z _ upd_same
        cases q
      · exact z o (by rw [upd_ne nb]; exact ho)
  xd := fun b fs h => by
    have nb : b ≠ a := fun z => by subst z; rw [ha] at h; cases h; exact h3.2.2 _ rfl
    rw [upd_ne nb]
    exact e.xd _ _ (by rw [upd_ne nb]; exact h)
  rest := fun b o h ht hb => by
    have nb : b ≠ a := fun q => by subst q; exact hb hn
    rw [upd_ne nb]
    exact e.rest _ _ (by rw [upd_ne nb]; exact h) ht hb
theorem unlock_hr (hr : HR G ρ' H' eh) (hn : ρ'[n]? = some (true, a)) (ha : H' a = some (.frz od u)) (hd : DR (VR G.K ρ' H') t kvs u) : HR G ρ' (upd H' a u) (eh.set n (.dic t kvs)) := by
  have ht : Tx2 H' (upd H' a u) := ⟨fun b xs h => by
    rw [upd_ne (fun z => by subst z; rw [ha] at h; cases h)]
    exact h, fun b xs h => by
    rw [upd_ne (fun z => by subst z; rw [ha] at h; cases h)]
    exact h⟩
  have hq : ∀ b vs, RoL G.K H' b vs → RoL G.K (upd H' a u) b vs := fun b vs h => by
    rcases h with ⟨o, h⟩ | h
    · refine .inl ⟨o, ?_⟩
      rw [upd_ne (fun z => by
        subst z
        rw [ha] at h
        cases h
        exact hd.nlst _ rfl)]
      exact h
    · exact .inr h
  refine ⟨tabs_upd hr.tab (fun v hv => by rw [ha] at hv; cases hv; exact pln_frz), by rw [List.length_set]; exact hr.len, hr.dis, fun j z hz => ?_⟩
  by_cases hj : n = j
  · subst hj
    have hl : n < eh.length := by
      have := (List.getElem?_eq_some_iff.mp hz).1
      simpa using this
    rw [List.getElem?_set_self hl] at hz
    cases hz
    exact ⟨a, hn, u, upd_same, hd.mono fun x v => VR.monoT ht x v⟩
  · rw [List.getElem?_set_ne hj] at hz
    obtain ⟨b, hb, hO⟩ := hr.obj j z hz
    refine ⟨b, hb, hO.keepT ht hq fun hm => upd_ne fun q => hj ?_⟩
    subst q
    rw [hm] at hb
    exact hr.dis n j b hn hb
end
def lkAt (h : EH) (n : Nat) : Option (Bool × List (EV × EV)) := match h[n]? with
  | some (.lkd t kvs) => some (t, kvs)
  | _ => none
def rLock {α : Type} (sel : DE) (es : ES) (h : EH) (k : EH → Res α) : Res α := match sel es h with
  | .ok (.ref n) _ => match mdicAt h n with
    | some (t, kvs) => (k (h.set n (.lkd t kvs))).noer.bind fun v h1 => match lkAt h1 n with
      | some (t', kvs') => .ok v (h1.set n (.dic t' kvs'))
      | none => .no
    | none => .no
  | _ => .no
def dLockE (sel d : DE) : DE := fun es h => rLock sel es h fun h1 => d es h1
def dLockS (sel : DE) (d : DS) : DS := fun es h => rLock sel es h fun h1 => d es h1
section
variable {G : Gx} {E : XK}
theorem lk_of {ρ : Rho} {H : Hp} {eh : EH} {n : Nat} {t : Bool} {kvs : List (EV × EV)} (hr : HR G ρ H eh) (h : lkAt eh n = some (t, kvs)) : ∃ a f u, ρ[n]? = some (true, a) ∧ H a = some (.frz f u) ∧ DR (VR G.K ρ H) t kvs u := by
  unfold lkAt at h
  split at h
  · rename_i t ys e
    cases h
    obtain ⟨a, h1, f, u, h2, h3⟩ := hr.obj n _ e
    exact ⟨a, f, u, h1, h2, h3⟩
  · cases h
theorem lock_any {α β : Type} {R : Rho → Hp → α → β → Prop} (hR : ∀ ρ H H' x v, Tx2 H H' → R ρ H x v → R ρ H' x v) {sel : DE} {k : EH → Res α} {ρ : Rho} {σ : L2.St} {H : Hp} {es : ES} {eh : EH} {Q : β → Hp → Prop}
    (rel : Rel G ρ σ H es eh) (h : wr G R ρ H (rLock sel es eh k) Q E) :
    ∃ d u, H d = some u ∧ L2.Mut (some u) ∧ ∀ od, ∃ eh1, Rel G ρ σ (upd H d (.frz od u)) es eh1 ∧ wr G R ρ (upd H d (.frz od u)) (k eh1) (fun v H' => H' d = some (.frz od u) ∧ Q v (upd H' d u)) E := by
  unfold rLock at h
  split at h
  · rename_i n _ _
    split at h
    · rename_i t kvs e1
      obtain ⟨a, u, g1, g2, g3, g4⟩ := mdic_of rel.hr e1
      refine ⟨a, u, g2, g3.mt, fun od => ⟨eh.set n (.lkd t kvs), ?_⟩⟩
      obtain ⟨e2, hr2⟩ := lock_dic rel.hr g4 g2 g3 od
      refine ⟨rel.ext e2 hr2, ?_⟩
      cases q : k (eh.set n (.lkd t kvs)) with
      | no => rw [q] at h; exact h
      | er z h' => rw [q] at h; exact h.elim
      | ok v h' =>
        rw [q] at h
        simp only [noer_ok, bind_ok] at h
        intro ρ' H' w e hr' r
        have hfz := e.frz _ _ _ upd_same
        refine ⟨hfz, ?_⟩
        split at h
        · rename_i t' kvs' e3
          obtain ⟨a', f', u', j1, j2, j3⟩ := lk_of hr' e3
          have ea := e.toExt0.at g4
          rw [j1] at ea
          cases ea
          rw [hfz] at j2
          cases j2
          refine h ρ' _ w (unlock_ext (List.mem_of_getElem? g4) g2 g3.ntup g3.nfrz g3.pln e) (unlock_hr hr' j1 hfz j3) (hR _ _ _ _ _ ⟨fun b xs hb => ?_, fun b xs hb => ?_⟩ r)
          · rw [upd_ne (fun z => by subst z; rw [hfz] at hb; cases hb)]
            exact hb
          · rw [upd_ne (fun z => by subst z; rw [hfz] at hb; cases hb)]
            exact hb
        · exact h.elim
    · exact h.elim
  · exact h.elim
variable {X : Cx} {ct : Nat → Addr × List Str} {e : Expr} {st : Stmt} {d sel : DE} {ds : DS}
theorem xe_lock (sel : DE) (h : PEd X ct E e d) : PEd X ct E e (dLockE sel d) := by
  obtain ⟨t, h1, h2⟩ := h
  refine ⟨_, pe_lock h1, fun ρ σ H es eh Q rel hw => ?_⟩
  obtain ⟨a, u, g1, g2, g3⟩ := lock_any (R := VR X.K) (k := fun h1 => d es h1) (fun ρ H H' x v ht r => VR.monoT ht x v r) rel hw
  refine ⟨a, u, g1, g2, fun od => ?_⟩
  obtain ⟨eh1, rel1, w1⟩ := g3 od
  exact h2 ρ σ _ es eh1 _ rel1 w1
theorem xs_lock (sel : DE) (h : PSd X ct E st ds) : PSd X ct E st (dLockS sel ds) := by
  obtain ⟨t, h1, h2⟩ := h
  refine ⟨_, ps_lock h1, fun ρ σ H es eh D rel hw => ?_⟩
  obtain ⟨a, u, g1, g2, g3⟩ := lock_any (R := RF ⟨X.K, ct⟩) (fun ρ H H' x v ht r => by
    have key : ∀ {es : ES} {σ : L2.St}, SR X.K ρ H es σ → SR X.K ρ H' es σ := fun q => ⟨q.1, fun i v hv => by
      obtain ⟨u, h1, h2⟩ := q.2 i v hv
      exact ⟨u, h1, VR.monoT ht _ _ h2⟩⟩
    cases x with
    | nx es => cases v with
      | nx σ => exact key r
      | _ => exact r.elim
    | rt x => cases v with
      | rt v => exact VR.monoT ht _ _ r
      | _ => exact r.elim
    | bk es => cases v with
      | bk σ => exact key r
      | _ => exact r.elim
    | ct es => cases v with
      | ct σ => exact key r
      | _ => exact r.elim) rel hw
  refine ⟨a, u, g1, g2, fun od => ?_⟩
  obtain ⟨eh1, rel1, w1⟩ := g3 od
  refine h2 ρ σ _ es eh1 _ rel1 ?_
  cases q : ds es eh1 with
  | no => rw [q] at w1; exact w1
  | er z h' => rw [q] at w1; exact w1
  | ok v h' =>
    rw [q] at w1
    intro ρ' H' w e hr r
    have := w1 ρ' H' w e hr r
    cases w <;> exact this
end
def dItK (a : DE) : DI := fun es h => (a es h).bind fun x h1 => match x with
  | .ref n => match lkAt h1 n with
    | some (_, kvs) => .ok ⟨none, kvs.map (·.1), fun _ x => x⟩ h1
    | none => .no
  | _ => .no
section
variable {X : Cx} {ct : Nat → Addr × List Str} {E : XK} {G : Gx} {a tg : Expr} {da : DE}
theorem snd_itK {tl : TE} (ha : SndE G E tl da) : SndI G E (iKeys tl) (dItK da) := fun ρ σ H es eh Q rel h => by
  refine ha.bind rel h fun ρ1 H1 x eh1 v e1 rel1 v1 h1 => ?_
  split at h1
  · rename_i n
    split at h1
    · rename_i t kvs e2
      obtain ⟨p, f, u, g1, g2, g3⟩ := lk_of rel1.hr e2
      obtain ⟨p', q1, rfl⟩ := vr_ref.mp v1
      rw [adr_of g1] at q1; cases q1
      refine ⟨p, f, rfl, ?_⟩
      cases t with
      | false =>
        obtain ⟨l, rfl, hk⟩ := g3
        refine .inl ⟨l, g2, h1 ρ1 H1 _ (Ext.refl _ _ _) rel1.hr fun ρ' H' eh' xs e hr hc => ?_⟩
        cases hc
        have hz := e.frz _ _ _ g2
        refine ⟨fun i x hx => ?_, fun i hx => ?_⟩
        · rw [List.getElem?_map] at hx
          obtain ⟨p0, hp, rfl⟩ := Option.map_eq_some_iff.mp hx
          obtain ⟨k, w, k1, k2, k3⟩ := hk.at hp
          refine ⟨⟨hz, (List.getElem?_eq_some_iff.mp k1).1⟩, fun y H3 hy => ?_⟩
          obtain ⟨rfl, k', w', k1', rfl⟩ := hy
          rw [k1] at k1'
          cases k1'
          exact ⟨Ext.refl _ _ _, hr, keyOf_vr k2⟩
        · rw [List.getElem?_map, Option.map_eq_none_iff, List.getElem?_eq_none_iff] at hx
          exact ⟨hz, by rw [← hk.len]; exact hx⟩
      | true =>
        obtain ⟨l, rfl, hk⟩ := g3
        refine .inr ⟨l, g2, h1 ρ1 H1 _ (Ext.refl _ _ _) rel1.hr fun ρ' H' eh' xs e hr hc => ?_⟩
        cases hc
        have hz := e.frz _ _ _ g2
        refine ⟨fun i x hx => ?_, fun i hx => ?_⟩
        · rw [List.getElem?_map] at hx
          obtain ⟨p0, hp, rfl⟩ := Option.map_eq_some_iff.mp hx
          obtain ⟨k, w, k1, k2, k3⟩ := hk.at hp
          refine ⟨⟨hz, (List.getElem?_eq_some_iff.mp k1).1⟩, fun y H3 hy => ?_⟩
          obtain ⟨rfl, k', w', b, k1', rfl, hb⟩ := hy
          rw [k1] at k1'
          cases k1'
          exact ⟨Ext.refl _ _ _, hr, tkeyOf_vr k2 hb⟩
        · rw [List.getElem?_map, Option.map_eq_none_iff, List.getElem?_eq_none_iff] at hx
          exact ⟨hz, by rw [← hk.len]; exact hx⟩
    · exact h1.elim
  · exact h1.elim
theorem xi_keys (h : PEd X ct E a da) : PId X ct E tg a (dItK da) := by
  obtain ⟨t, h1, h2⟩ := h
  exact ⟨_, pi_keys h1, snd_itK h2⟩
end
def fKeysT : DL := fun xs h => match xs with
  | [.ref n] => match dicAt h n with
    | some (true, kvs) => .ok (.ref h.length) (h ++ [.lst (kvs.map (·.1))])
    | _ => .no
  | _ => .no
def fTupL : DL := fun xs h => match xs with
  | [.ref n] => match lstAt h n with
    | some ys => .ok (.tup ys) h
    | none => .no
  | _ => .no
section
variable {X : Cx} {ct : Nat → Addr × List Str} {E : XK} {G : Gx}
theorem keys_vrs {K : Fg} {ρ : Rho} {H : Hp} {R : EV → V → Prop} : ∀ {kvs : List (EV × EV)} {l : List (List Key × V)} {bs : List Addr}, KR tkeyOf R kvs l → IsKeys H l bs → VRs K ρ H (kvs.map (·.1)) (bs.map V.ref)
  | [], _, bs, h, q => by
    rw [h] at q
    cases bs with
    | nil => exact vrs_nil.mpr rfl
    | cons b bs => cases q
  | p :: ps, _, bs, ⟨k, v, r, e, h1, h2, h3⟩, q => by
    subst e
    cases q with
    | cons hb hr => exact vrs_cons.mpr ⟨_, _, rfl, tkeyOf_vr h1 hb, keys_vrs h3 hr⟩
theorem c_keysT (hc : X.calm = true) : Cld X ct E (.type "list") fKeysT := ⟨_, call_list_dT hc, fun ρ H eh xs as Q hr hx h => by
  unfold fKeysT at h
  split at h
  · rename_i n
    split at h
    · rename_i kvs e1
      obtain ⟨v, rfl, hv⟩ := vrs_one hx
      obtain ⟨a, u, g1, g2, g3⟩ := dic_of hr e1
      obtain ⟨a', q1, rfl⟩ := vr_ref.mp hv
      rw [g1] at q1; cases q1
      obtain ⟨l, rfl, hk⟩ := g3
      exact ⟨a, l, rfl, g2, fun p bs hp hb => new_lst hr (keys_vrs hk hb) h p hp⟩
    · exact h.elim
  · exact h.elim⟩
theorem c_tupL : Cld X ct E (.type "tuple") fTupL := ⟨_, call_tuple_of, fun ρ H eh xs as Q hr hx h => by
  unfold fTupL at h
  split at h
  · rename_i n
    split at h
    · rename_i ys e1
      obtain ⟨v, rfl, hv⟩ := vrs_one hx
      obtain ⟨a, vs, g1, g2, g3⟩ := lst_of hr e1
      obtain ⟨a', q1, rfl⟩ := vr_ref.mp hv
      rw [g1] at q1; cases q1
      refine ⟨a, vs, rfl, .inl ⟨g2, fun l hl => ?_⟩⟩
      exact h ρ _ _ (Ext.side _ hl) (hr.side _ hl) (vr_tup.mpr ⟨l, vs, rfl, upd_same, VRs.mono (Ext.side _ hl) _ _ g3⟩)
    · exact h.elim
  · exact h.elim⟩
end
end EE
set_option Elab.async false
set_option linter.all false
set_option maxRecDepth 100000
set_option maxHeartbeats 1000000
namespace EE
open PySem PySem.Spec PyProof.Rows L2 SrtO Srt
def pairAt (H : Hp) (b : Addr) : Int × Int := match H b with
  | some (.tup [.int i, .int j]) => (i, j)
  | _ => (0, 0)
def pv (H : Hp) : Value → Int × Int
  | .ref b => pairAt H b
  | _ => (0, 0)
def lexLe (p q : Int × Int) : Bool := !lexB q p
theorem lexLe_iff {p q : Int × Int} : lexLe p q = true ↔ p.1 < q.1 ∨ (p.1 = q.1 ∧ p.2 ≤ q.2) := by
  unfold lexLe
  rw [Bool.not_eq_true', lexB_no]
  omega
def psort (l : List (Int × Int)) : List (Int × Int) := l.mergeSort lexLe
theorem psort_perm (l : List (Int × Int)) : (psort l).Perm l := List.mergeSort_perm l _
theorem psort_pw (l : List (Int × Int)) : (psort l).Pairwise fun p q => lexLe p q = true := List.pairwise_mergeSort (fun a b c h1 h2 => by
  rw [lexLe_iff] at h1 h2 ⊢
  omega) (fun a b => by
  rw [Bool.or_eq_true, lexLe_iff, lexLe_iff]
  omega) l
theorem psort_eq {l m : List (Int × Int)} (h : m.Perm l) (hp : m.Pairwise fun p q => lexLe p q = true) : m = psort l := List.Perm.eq_of_pairwise (le := fun p q => lexLe p q = true) (fun a b _ _ h1 h2 => by
  rw [lexLe_iff] at h1 h2
  exact Prod.ext (by omega) (by omega)) hp (psort_pw l) (h.trans (psort_perm l).symm)
def isort (l : List Int) : List Int := l.mergeSort fun a b => decide (a ≤ b)
theorem isort_perm (l : List Int) : (isort l).Perm l := List.mergeSort_perm l _
theorem isort_pw (l : List Int) : (isort l).Pairwise (· ≤ ·) := (List.pairwise_mergeSort (le := fun a b : Int => decide (a ≤ b)) (fun a b c h1 h2 => by simp only [decide_eq_true_eq] at *; omega) (fun a b => by simp only [Bool.or_eq_true, decide_eq_true_eq]; omega) l).imp fun h => by simpa using h
theorem isort_eq {l m : List Int} (h : m.Perm l) (hp : m.Pairwise (· ≤ ·)) : m = isort l := List.Perm.eq_of_pairwise (le := (· ≤ ·)) (fun a b _ _ h1 h2 => by omega) hp (isort_pw l) (h.trans (isort_perm l).symm)
section
variable {X : Cx}
def rSortDT : List V → Hp → VK → Prop := fun xs H Q => ∃ (a : Addr) (kvs : List (List Key × V)), xs = [.ref a] ∧ Rd H a (.dT kvs) ∧ (∀ p ∈ kvs, ∃ i j : Int, p.1 = [.inl i, .inl j]) ∧
  ∀ (bs ys : List Addr) (p : Addr), IsKeys H kvs bs → ys.Perm bs → (ys.map (pairAt H)).Pairwise (fun p q => lexLe p q = true) → H p = none → Q (.ref p) (upd H p (.lst (ys.map V.ref)))
theorem isKeys_at {H : Hp} : ∀ {kvs : List (List Key × V)} {bs : List Addr}, IsKeys H kvs bs → ∀ b ∈ bs, ∃ p ∈ kvs, H b = some (.tup (p.1.map kV))
  | _, _, .nil, b, h => absurd h (by simp)
  | _, _, .cons (a := p) hb hr, b, h => by
    rcases List.mem_cons.mp h with e | h
    · subst e
      exact ⟨p, List.mem_cons_self, hb⟩
    · obtain ⟨q, hq, e⟩ := isKeys_at hr b h
      exact ⟨q, List.mem_cons_of_mem _ hq, e⟩
theorem call_sortedDT (hcalm : X.calm = true) : CallR X (.builtin "sorted") rSortDT := by
  intro pins s σ H xs us Q I r h
  obtain ⟨d, kvs, rfl, hd, hk, q⟩ := h
  obtain ⟨u, rfl, rx⟩ := r.one
  cases rx
  obtain ⟨z, hsys, raw, hpr, o, ents, ep, ho, hx, hdat, he, hn⟩ := (show ObjOk X.prog X.w H s.heap d (.dT kvs) from hd.ok I.hok)
  have c1 : ents.size = raw.length := size_of_entries he
  have c2 : kvs.length = raw.length := Paired.length hpr
  have h16 : ents.size ≤ sizeLine := by omega
  refine Calls.call_function_entry PyProof.Rows.kind_sorted PyProof.Rows.plain_sorted PyProof.Rows.entry_sorted (PyProof.Rows.args_sorted1 _) ?_
  unfold Builtin.«sorted»
  refine wpAny_bind (m := checkCount "sorted" 1 1 _) (wpAny_pure ?_)
  refine wpAny_bind (PySem.W.kdu_collect (A := X.A.in1) (kdl_raw hsys hx hdat) (I.ok.hd hcalm) ho h16 fun h' tk got stay walked => ?_)
  have ea : got.toList = raw.map fun x => Value.ref x.2.1 := by
    have hl : got.toList.length = raw.length := by rw [Array.length_toList, walked.1]; exact c1
    apply List.ext_getElem?
    intro j
    rw [List.getElem?_map]
    cases hjj : got.toList[j]? with
    | none =>
      have h1 := List.getElem?_eq_none_iff.mp hjj
      rw [List.getElem?_eq_none (by omega)]
      all_goals rfl
    | some v =>
      obtain ⟨ent, hent, hv⟩ := walked.2 j v (by rw [← Array.getElem?_toList]; exact hjj)
      have heq := entry_at he j
      rw [hent] at heq
      cases hbb : raw[j]? with
      | none =>
        rw [hbb] at heq
        exact nomatch (show some ent = none from heq)
      | some b =>
        rw [hbb] at heq
        have e2 := Option.some.inj heq
        rw [hv, e2]
        all_goals rfl
  generalize hbs : (raw.map fun x => x.2.1) = bs at *
  have eb : got.toList = bs.map Value.ref := by rw [ea, ← hbs, List.map_map]; all_goals rfl
  have hK : IsKeys H kvs bs := by rw [← hbs]; exact isKeys_of hpr
  have hlen : got.toList.length = bs.length := by rw [eb, List.length_map]
  have hbl : bs.length = raw.length := by rw [← hbs, List.length_map]
  have I1 : Inv X pins σ H { s with heap := h', toks := tk } := I.kept stay
  have hL : got.toList.length ≤ sizeLine := by omega
  refine wpAny_bind (wpAny_newList ?_ hL)
  have hgl : (h'.push (seqObj "list" got.toList.toArray 0)).get? h'.objs.size = some (seqObj "list" got.toList.toArray 0) := Heap.get?_push_size _ rfl
  show wpAny _ _ _ _ _ { s with heap := h'.push (seqObj "list" got.toList.toArray 0), toks := tk }
  have hp : ∀ v ∈ got.toList, IsPair (h'.push (seqObj "list" got.toList.toArray 0)) v (pv H v).1 (pv H v).2 := fun v hv => by
    rw [eb] at hv
    obtain ⟨b, hbb, rfl⟩ := List.mem_map.mp hv
    obtain ⟨p, hpm, hHb⟩ := isKeys_at hK b hbb
    obtain ⟨i, j, hij⟩ := hk p hpm
    rw [hij] at hHb
    have epv : pv H (.ref b) = (i, j) := by
      show pairAt H b = (i, j)
      unfold pairAt
      rw [hHb]
      rfl
    rw [epv]
    obtain ⟨_, its2, r2, o2, ho2, hc2, n2, hd2⟩ := I1.hok b _ hHb
    obtain ⟨w1, w2, rfl, r1, r2b⟩ := vals2 r2
    obtain ⟨t1, rfl⟩ := r1
    obtain ⟨t2, rfl⟩ := r2b
    exact ⟨b, o2, t1, t2, n2, rfl, Heap.get?_push_of_some _ ho2, hc2, hd2⟩
  refine wpAny_bind (wpAny_holding (wpAny_call_entry PyProof.Rows.slot_list_sort ⟨_, hgl, rfl⟩ PyProof.Rows.entry_list_sort
    (SrtO.list_sort_ord (s := { s with heap := h'.push (seqObj "list" got.toList.toArray 0), toks := tk }) (SrtO.swo_lex fun u => pv H u) hgl hL (fun h2 => SrtO.pairs_sortableO (by omega) hp fun o e => ?_) fun out h1 h2 => ⟨_, rfl, ?_⟩) (PyProof.Rows.args_list_sort _)))
  · have e' : some o = some (seqObj "list" got.toList.toArray 0) := e.symm.trans hgl
    cases e'
    intro c
    exact absurd (Value.type.inj c) (by decide)
  · obtain ⟨e', he'⟩ := PyProof.Rows.sortedHeap_at (vs := got.toList) (out := out.toArray) hgl
    obtain ⟨ys, hys⟩ : ∃ ys : List Addr, out = ys.map Value.ref := by
      refine ⟨out.map fun v => match v with | .ref b => b | _ => 0, ?_⟩
      rw [List.map_map]
      refine (List.map_id' out).symm.trans (List.map_congr_left fun v hv => ?_)
      have hm := h2.perm.mem_iff.mp hv
      rw [eb] at hm
      obtain ⟨b, _, rfl⟩ := List.mem_map.mp hm
      rfl
    have hperm : ys.Perm bs := by
      have := h2.perm
      rw [hys, eb] at this
      have h3 := this.map fun v => match v with | .ref b => b | _ => 0
      rw [List.map_map, List.map_map] at h3
      have e3 : ∀ l : List Addr, l.map ((fun v => match v with | Value.ref b => b | _ => 0) ∘ Value.ref) = l := fun l => by
        rw [show ((fun v => match v with | Value.ref b => b | _ => 0) ∘ Value.ref) = id from rfl, List.map_id]
      rw [e3, e3] at h3
      exact h3
    have hsort : (ys.map (pairAt H)).Pairwise (fun p q => lexLe p q = true) := by
      rw [List.pairwise_map]
      have h3 := h1
      rw [hys] at h3
      have h4 := List.pairwise_map.mp h3
      refine h4.imp fun {x y} hxy => ?_
      have hxy : lexB (pairAt H y) (pairAt H x) = false := hxy
      unfold lexLe
      rw [hxy]
      rfl
    have hz : (ys.map V.ref).length ≤ sizeLine := by
      rw [List.length_map, hperm.length_eq]
      omega
    refine wpAny_pure ⟨_, rfl, .ref h'.objs.size, upd H h'.objs.size (.lst (ys.map V.ref)), I1.laid (t' := tk) (fun b u e => ?_) (Nat.le_refl _)
      (show ObjOk X.prog X.w _ _ _ (.lst (ys.map V.ref)) from ⟨hz, out, e', by rw [hys]; exact vals_refs ys, he'⟩), rfl, q bs ys _ hK hperm hsort (I1.hok.fresh (Nat.le_refl _))⟩
    have hbb : b < h'.objs.size := Heap.lt_size e
    rw [PyProof.Rows.sortedHeap_old (Nat.ne_of_lt hbb) (by rw [size_push']; exact Nat.lt_succ_of_lt hbb)]
    exact Heap.get?_push_of_some _ e
end
def intsE : List EV → Option (List Int)
  | [] => some []
  | x :: r => match x, intsE r with
    | .int i, some l => some (i :: l)
    | _, _ => none
def pairsE : List EV → Option (List (Int × Int))
  | [] => some []
  | x :: r => match x, pairsE r with
    | .tup [.int i, .int j], some l => some ((i, j) :: l)
    | _, _ => none
def pairE (p : Int × Int) : EV := .tup [.int p.1, .int p.2]
theorem intsE_map : ∀ (l : List Int), intsE (l.map EV.int) = some l
  | [] => rfl
  | x :: l => by simp only [List.map_cons, intsE, intsE_map l]
theorem intsE_eq : ∀ {xs : List EV} {l : List Int}, intsE xs = some l → xs = l.map EV.int
  | [], l, h => by cases h; rfl
  | x :: r, l, h => by
    unfold intsE at h
    split at h
    · rename_i i m e
      cases h
      rw [intsE_eq e]
      rfl
    · cases h
theorem pairsE_map : ∀ (l : List (Int × Int)), pairsE (l.map pairE) = some l
  | [] => rfl
  | x :: l => by
    have ih := pairsE_map l
    simp only [List.map_cons, pairE, pairsE] at ih ⊢
    rw [ih]
theorem pairsE_eq : ∀ {xs : List EV} {l : List (Int × Int)}, pairsE xs = some l → xs = l.map pairE
  | [], l, h => by cases h; rfl
  | x :: r, l, h => by
    unfold pairsE at h
    split at h
    · rename_i i j m e
      cases h
      rw [pairsE_eq e]
      rfl
    · cases h
def fSortI : DL := fun xs h => match xs with
  | [.ref n] => match lstAt h n with
    | some ys => match intsE ys with
      | some l => .ok (.ref h.length) (h ++ [.lst ((isort l).map EV.int)])
      | none => .no
    | none => .no
  | _ => .no
def fSortT : DL := fun xs h => match xs with
  | [.ref n] => match dicAt h n with
    | some (true, kvs) => match pairsE (kvs.map (·.1)) with
      | some l => .ok (.ref h.length) (h ++ [.lst ((psort l).map pairE)])
      | none => .no
    | _ => .no
  | _ => .no
def fSortD : DL := fun xs h => match xs with
  | [.ref n] => match dicAt h n with
    | some (false, kvs) => match intsE (kvs.map (·.1)) with
      | some l => if l.length < 64 then .ok (.ref h.length) (h ++ [.lst ((isort l).map EV.int)]) else .no
      | none => .no
    | _ => .no
  | _ => .no
theorem KR.keys {κ : Type} {f : EV → Option κ} {R : EV → V → Prop} : ∀ {ps : List (EV × EV)} {l : List (κ × V)}, KR f R ps l → ps.map (fun p => f p.1) = l.map fun p => some p.1
  | [], _, h => by rw [h]; rfl
  | p :: ps, _, ⟨k, v, r, e, h1, h2, h3⟩ => by
    subst e
    rw [List.map_cons, List.map_cons, KR.keys h3, h1]
theorem keyOf_ints : ∀ {xs : List EV} {l : List Int} {ks : List Key}, intsE xs = some l → xs.map keyOf = ks.map some → ks = l.map Sum.inl
  | [], l, ks, h, e => by
    cases h
    simpa using e.symm
  | x :: r, l, ks, h, e => by
    unfold intsE at h
    split at h
    · rename_i i m q
      cases h
      cases ks with
      | nil => simp at e
      | cons k ks =>
        simp only [List.map_cons, List.cons.injEq] at e
        have := e.1
        unfold keyOf at this
        cases this
        rw [keyOf_ints q e.2]
        rfl
    · cases h
theorem tkeyOf_pairs : ∀ {xs : List EV} {l : List (Int × Int)} {ks : List (List Key)}, pairsE xs = some l → xs.map tkeyOf = ks.map some → ks = l.map fun p => [Sum.inl p.1, Sum.inl p.2]
  | [], l, ks, h, e => by
    cases h
    simpa using e.symm
  | x :: r, l, ks, h, e => by
    unfold pairsE at h
    split at h
    · rename_i i j m q
      cases h
      cases ks with
      | nil => simp at e
      | cons k ks =>
        simp only [List.map_cons, List.cons.injEq] at e
        have h1 := e.1
        simp only [tkeyOf, keysOf, keyOf, Option.some.injEq] at h1
        rw [tkeyOf_pairs q e.2, ← h1]
        rfl
    · cases h
theorem pairs_at {K : Fg} {ρ : Rho} {H : Hp} : ∀ {kvs : List (List Key × V)} {l : List (Int × Int)} {bs : List Addr}, (kvs.map (·.1)) = l.map (fun p => [Sum.inl p.1, Sum.inl p.2]) → IsKeys H kvs bs → bs.map (pairAt H) = l ∧ ∀ b ∈ bs, VR K ρ H (pairE (pairAt H b)) (.ref b)
  | _, l, _, h, .nil => by
    have : l = [] := by simpa using h.symm
    subst this
    exact ⟨rfl, fun b hb => absurd hb (by simp)⟩
  | _, [], _, h, .cons hb hr => by simp at h
  | _, p :: l, _, h, .cons (b := b) hb hr => by
    simp only [List.map_cons, List.cons.injEq] at h
    obtain ⟨h1, h2⟩ := pairs_at (K := K) (ρ := ρ) h.2 hr
    rw [h.1] at hb
    have hb' : H b = some (.tup [.int p.1, .int p.2]) := hb
    have e : pairAt H b = p := by
      unfold pairAt
      rw [hb']
    refine ⟨by rw [List.map_cons, h1, e], fun c hc => ?_⟩
    rcases List.mem_cons.mp hc with q | q
    · subst q
      rw [e]
      exact vr_tup.mpr ⟨c, _, rfl, hb', vrs_cons.mpr ⟨_, _, rfl, vr_int.mpr rfl, vrs_cons.mpr ⟨_, _, rfl, vr_int.mpr rfl, vrs_nil.mpr rfl⟩⟩⟩
    · exact h2 c q
theorem vrs_pairs {K : Fg} {ρ : Rho} {H : Hp} : ∀ {ys : List Addr}, (∀ b ∈ ys, VR K ρ H (pairE (pairAt H b)) (.ref b)) → VRs K ρ H ((ys.map (pairAt H)).map pairE) (ys.map V.ref)
  | [], _ => vrs_nil.mpr rfl
  | y :: ys, h => vrs_cons.mpr ⟨_, _, rfl, h y List.mem_cons_self, vrs_pairs fun b hb => h b (List.mem_cons_of_mem _ hb)⟩
section
variable {X : Cx} {ct : Nat → Addr × List Str} {E : XK} {G : Gx}
theorem c_sortI : Cld X ct E (.builtin "sorted") fSortI := ⟨_, cr_sortedI, fun ρ H eh xs as Q hr hx h => by
  unfold fSortI at h
  split at h
  · rename_i n
    split at h
    · rename_i ys e1
      split at h
      · rename_i l e2
        obtain ⟨v, rfl, hv⟩ := vrs_one hx
        obtain ⟨a, vs, g1, g2, g3⟩ := lst_of hr e1
        obtain ⟨a', q1, rfl⟩ := vr_ref.mp hv
        rw [g1] at q1; cases q1
        rw [intsE_eq e2] at g3
        rw [VRs.of_ints g3] at g2
        refine ⟨a, l, rfl, g2, fun ns' p hp hs hn => ?_⟩
        rw [isort_eq hp hs]
        exact new_lst hr (VRs.ints _) h p hn
      · exact h.elim
    · exact h.elim
  · exact h.elim⟩
theorem c_sortT (hc : X.calm = true) : Cld X ct E (.builtin "sorted") fSortT := ⟨_, call_sortedDT hc, fun ρ H eh xs as Q hr hx h => by
  unfold fSortT at h
  split at h
  · rename_i n
    split at h
    · rename_i kvs e1
      split at h
      · rename_i l e2
        obtain ⟨v, rfl, hv⟩ := vrs_one hx
        obtain ⟨a, u, g1, g2, g3⟩ := dic_of hr e1
        obtain ⟨a', q1, rfl⟩ := vr_ref.mp hv
        rw [g1] at q1; cases q1
        obtain ⟨m, rfl, hk⟩ := g3
        have hkeys : m.map (·.1) = l.map fun p => [Sum.inl p.1, Sum.inl p.2] := by
          refine tkeyOf_pairs e2 ?_
          rw [List.map_map, List.map_map]
          exact hk.keys
        refine ⟨a, m, rfl, g2, fun p hp => ?_, fun bs ys p hK hperm hs hn => ?_⟩
        · have : p.1 ∈ l.map fun p => [Sum.inl p.1, Sum.inl p.2] := by
            rw [← hkeys]
            exact List.mem_map.mpr ⟨p, hp, rfl⟩
          obtain ⟨z, _, hz⟩ := List.mem_map.mp this
          exact ⟨z.1, z.2, hz.symm⟩
        · obtain ⟨k1, k2⟩ := pairs_at (K := X.K) (ρ := ρ) hkeys hK
          have e3 : ys.map (pairAt H) = psort l := by
            refine psort_eq ?_ hs
            rw [← k1]
            exact hperm.map _
          have hv := vrs_pairs (K := X.K) (ρ := ρ) fun b hb => k2 b (hperm.mem_iff.mp hb)
          rw [e3] at hv
          exact new_lst hr hv h p hn
      · exact h.elim
    · exact h.elim
  · exact h.elim⟩
theorem c_sortD (hc : X.calm = true) : Cld X ct E (.builtin "sorted") fSortD := ⟨_, call_sortedDI hc, fun ρ H eh xs as Q hr hx h => by
  unfold fSortD at h
  split at h
  · rename_i n
    split at h
    · rename_i kvs e1
      split at h
      · rename_i l e2
        split at h
        · rename_i hl
          obtain ⟨v, rfl, hv⟩ := vrs_one hx
          obtain ⟨a, u, g1, g2, g3⟩ := dic_of hr e1
          obtain ⟨a', q1, rfl⟩ := vr_ref.mp hv
          rw [g1] at q1; cases q1
          obtain ⟨m, rfl, hk⟩ := g3
          have hkeys : m.map (·.1) = l.map Sum.inl := by
            refine keyOf_ints e2 ?_
            rw [List.map_map, List.map_map]
            exact hk.keys
          refine ⟨a, m, l, rfl, g2, hkeys, hl, fun ys p hp hs hn => ?_⟩
          rw [isort_eq hp hs]
          exact new_lst hr (VRs.ints _) h p hn
        · exact h.elim
      · exact h.elim
    · exact h.elim
  · exact h.elim⟩
abbrev fSorted : DL := dLor fSortI (dLor fSortT fSortD)
theorem c_sorted (hc : X.calm = true) : Cld X ct E (.builtin "sorted") fSorted := c_sortI.or ((c_sortT hc).or (c_sortD hc))
end
end EE
set_option Elab.async false
set_option linter.all false
set_option maxRecDepth 100000
set_option maxHeartbeats 1000000
namespace EE
open PySem PySem.Spec PyProof.Rows L2
section
variable {X : Cx} {pins : List (Addr × Obj)} {σ : L2.St} {H : Hp} {s : Shared} {d : Addr} {o : Obj}
theorem frz_raw {kvs : List (List Key × V)} (I : Inv X pins σ H s) (h : H d = some (.frz o (.dT kvs))) :
    (d == sysModules) = false ∧ ∃ (ent : Array DictEntry) (ep : Nat), DT.Raw s.heap d ent ep ∧ o.data = .dict ent ep ∧ ent.size = kvs.length ∧
      ∀ (i : Nat) (k : List Key) (v : V) (hi : i < ent.size), kvs[i]? = some (k, v) → ∃ q : Addr, ent[i].key = .ref q ∧ H q = some (.tup (k.map kV)) ∧ RelV v ent[i].val := by
  obtain ⟨h0, z, hsys, raw, hpr, o', ent, ep, ho, hx, hdat, hent, hnd⟩ := I.hok d _ h
  rw [h0] at ho
  cases ho
  refine ⟨hsys, ent, ep, ⟨o, h0, hx, hdat⟩, hdat, ?_, fun i k v hi e => ?_⟩
  · rw [size_of_entries hent, Paired.length hpr]
  · obtain ⟨b, b1, b2, b3, b4⟩ := paired_get hpr e
    have q := entry_at hent i
    rw [b1, Array.getElem?_eq_getElem hi] at q
    have e2 := Option.some.inj q
    refine ⟨b.2.1, ?_, b3, ?_⟩
    · rw [e2]
      rfl
    · rw [e2]
      exact b4
end
def ItiT (d : Addr) (o : Obj) (kvs : List (List Key × V)) : It where
  go := fun i H => H d = some (.frz o (.dT kvs)) ∧ i < kvs.length
  yld := fun i H x H' => ∃ (T q : Addr) (k : List Key) (v : V), kvs[i]? = some (k, v) ∧ H q = some (.tup (k.map kV)) ∧ x = .ref T ∧ H T = none ∧ H' = upd H T (.tup [.ref q, v])
  stop := fun i H => H d = some (.frz o (.dT kvs)) ∧ kvs.length ≤ i
theorem turn_itemsT {P : Program} {w : World} {K : Fg} {d : Addr} {o : Obj} {ent : Array DictEntry} {ep : Nat} {kvs : List (List Key × V)} {elts : List Expr} {kk : Nat} {tpos : Pos} (it : Addr) (hod : o.data = .dict ent ep) :
    Turn P w K (.Tuple elts kk tpos) (ItiT d o kvs) [it] it (fun i h => ∃ c1 c2, IsItemIter h it d i kvs.length ep c1 c2) where
  mem := List.mem_singleton.mpr rfl
  obj := fun i h st b hb => by
    obtain ⟨c1, c2, e⟩ := st
    rw [List.mem_singleton.mp hb]
    exact ⟨_, e, fun v z => nomatch z⟩
  keep := fun i h h' st k => let ⟨c1, c2, e⟩ := st; ⟨c1, c2, k it (List.mem_singleton.mpr rfl) _ e⟩
  item := by
    intro X hP hw hK hc i pins s σ H E I hf st hg
    subst hP hw hK
    obtain ⟨g1, g2⟩ := hg
    obtain ⟨hsys, ent', ep', hraw, hdat, hsz, hat⟩ := frz_raw I g1
    obtain ⟨rfl, rfl⟩ := dict_ep hod hdat
    have hi : i < ent'.size := by rw [hsz]; exact g2
    have hkv : kvs[i]? = some (kvs[i].1, kvs[i].2) := List.getElem?_eq_getElem g2
    obtain ⟨q, hq1, hq2, hq3⟩ := hat i _ _ hi hkv
    obtain ⟨c1, c2, hst⟩ := st
    rw [← hsz] at hst
    have hlt : it < s.heap.objs.size := Heap.lt_size hst
    refine DT.nextI hst hraw hi fun h1 k1 k2 k3 k4 => ?_
    refine ⟨_, rfl, wpAny_letOwnedTupleGo_items (s := { s with heap := h1 }) k1 fun h2 j1 sb => ?_⟩
    have hT : h2.get? s.heap.objs.size = some { cls := .type "tuple", data := .seq #[.ref q, ent'[i].val] } := by
      rw [← hq1]
      exact (sb.2 _ (Nat.ne_of_gt hlt)).trans k2
    have new : ObjOk X.prog X.w (upd H s.heap.objs.size (.tup [.ref q, kvs[i].2])) h2 s.heap.objs.size (.tup [.ref q, kvs[i].2]) :=
      ⟨by show 2 ≤ sizeLine; decide, [.ref q, ent'[i].val], .cons rfl (.cons hq3 .nil), ⟨_, hT, rfl, _, rfl⟩⟩
    have I1 : Inv X pins σ (upd H s.heap.objs.size (.tup [.ref q, kvs[i].2])) { s with heap := h2 } :=
      I.turnedNew (t' := s.toks) (ch := [it]) (fun b ob hb e => (sb.2 b (fun z => hb (List.mem_singleton.mpr z))).trans (k4 b ob (fun z => hb (List.mem_singleton.mpr z)) e)) hf (Nat.le_refl _) new
    refine ⟨.ref s.heap.objs.size, _, I1, rfl, ⟨_, q, _, _, hkv, hq2, rfl, I.hok.fresh (Nat.le_refl _), rfl⟩, ⟨ent'[i].key, ent'[i].val, ?_⟩, fun b hb => ?_⟩
    · rw [← hsz]
      exact j1
    · rw [List.mem_singleton.mp hb, upd_ne (Nat.ne_of_lt hlt)]
      exact (hf it (List.mem_singleton.mpr rfl)).1
  done := by
    intro X hP hw hK hc i pins s σ H E I hf st hg
    subst hP hw hK
    obtain ⟨g1, g2⟩ := hg
    obtain ⟨f0, f1, f2, f3, f4, f5⟩ := hf it (List.mem_singleton.mpr rfl)
    obtain ⟨hsys, ent', ep', hraw, hdat, hsz, hat⟩ := frz_raw I g1
    obtain ⟨rfl, rfl⟩ := dict_ep hod hdat
    obtain ⟨c1, c2, hst⟩ := st
    rw [← hsz] at hst
    exact DT.endI (I.ok.hd hc) hst hraw (by rw [hsz]; exact g2) fun h' eb => ⟨rfl, I.turned (t' := s.toks) (fun b ob hb e => eb b ob hb e) f0 f1 f3 f4 f5⟩
  self := fun A i s Q E st h => let ⟨_, _, e⟩ := st; PySem.W.kcp_self e h
def iItemsT (td : TE) : TI := fun σ H R => td σ H fun x H1 => ∃ d o kvs, x = .ref d ∧ H1 d = some (.frz o (.dT kvs)) ∧ R (ItiT d o kvs) H1
section
variable {X : Cx} {e : Expr} {td : TE} {apos cpos : Pos}
theorem pi_itemsT {elts : List Expr} {kk : Nat} {tpos : Pos} (he : PE X e td) (hbase : attributeBase e "items" X.env (eval e X.env) = eval e X.env := by rfl) (hline : (apos.endLine == cpos.line) = true := by rfl) :
    PI X (.Tuple elts kk tpos) (.Call (.Attribute e "items" apos) [] [] cpos) (iItemsT td) := by
  refine ⟨fun pins s σ H R I h => wpAny_Call_method (T := "dict") (id := "dict.items") hbase rfl hline PySem.F.plainAttrs_dict PySem.F.slot_dict_items PySem.F.type_dict_items (thn (he.run pins s σ H _ I h) fun u s1 ⟨x, H1, I1, rx, d, o, kvs, ex, hd, q⟩ => ?_)⟩
  subst ex
  cases (show u = Value.ref d from rx)
  obtain ⟨hsys, ent, ep, hraw, hdat, hsz, hat⟩ := frz_raw I1 hd
  refine ⟨hraw.typeIs, fun b q => ?_, ?_⟩
  · cases q
    obtain ⟨ob, h1, h2, _⟩ := hraw
    exact ⟨ob, h1, h2.2.1⟩
  have I2 : Inv X pins σ H1 { s1 with heap := s1.heap.push { cls := .type "dict_items", data := .fields #[.ref d] } } := I1.kept (t' := s1.toks) fun b ob q => Heap.get?_push_of_some _ q
  have fin : wpAny (model X.prog X.w) X.A (pyIter (.ref s1.heap.objs.size)) (PIE X pins σ (.Tuple elts kk tpos) R) X.xe { s1 with heap := s1.heap.push { cls := .type "dict_items", data := .fields #[.ref d] } } := by
    refine DT.iterI (d := d) ⟨_, Heap.get?_push_size _ rfl, rfl, rfl⟩ (hraw.push _) (pi_one (tk := s1.toks) I2 _ (turn_itemsT (kvs := kvs) _ hdat) ⟨.none, .none, ?_⟩ q)
    rw [← hsz]
    exact Heap.get?_push_size _ rfl
  show wpAny _ _ (callWith cpos (.builtin "dict.items") [.ref d] [] []) _ X.xe s1
  exact method_meetsIn PySem.F.slot_dict_items PySem.F.entry_dict_items rfl (PySem.evalArgs_none ⟨rfl, hraw.typeIs, PySem.F.args_dict_items_1 _, _, DT.meetsItems (es := ent) (ep := ep) hsys, hraw, fin⟩)
end
def dItIT (a : DE) : DI := fun es h => (a es h).bind fun x h1 => match x with
  | .ref n => match lkAt h1 n with
    | some (true, kvs) => .ok ⟨none, kvs.map (fun p => .tup [p.1, p.2]), fun _ x => x⟩ h1
    | _ => .no
  | _ => .no
section
variable {X : Cx} {ct : Nat → Addr × List Str} {E : XK} {G : Gx} {a : Expr} {da : DE}
theorem snd_itIT {tl : TE} (ha : SndE G E tl da) : SndI G E (iItemsT tl) (dItIT da) := fun ρ σ H es eh Q rel h => by
  refine ha.bind rel h fun ρ1 H1 x eh1 v e1 rel1 v1 h1 => ?_
  split at h1
  · rename_i n
    split at h1
    · rename_i kvs e2
      obtain ⟨p, f, u, g1, g2, g3⟩ := lk_of rel1.hr e2
      obtain ⟨p', q1, rfl⟩ := vr_ref.mp v1
      rw [adr_of g1] at q1; cases q1
      obtain ⟨l, rfl, hk⟩ := g3
      refine ⟨p, f, l, rfl, g2, h1 ρ1 H1 _ (Ext.refl _ _ _) rel1.hr fun ρ' H' eh' xs e hr hc => ?_⟩
      cases hc
      have hz := e.frz _ _ _ g2
      refine ⟨fun i x hx => ?_, fun i hx => ?_⟩
      · rw [List.getElem?_map] at hx
        obtain ⟨p0, hp, rfl⟩ := Option.map_eq_some_iff.mp hx
        obtain ⟨k, w, k1, k2, k3⟩ := hk.at hp
        refine ⟨⟨hz, (List.getElem?_eq_some_iff.mp k1).1⟩, fun y H3 hy => ?_⟩
        obtain ⟨T, b, k', w', k1', hb, rfl, hT, rfl⟩ := hy
        rw [k1] at k1'
        cases k1'
        have e3 : Ext G.K ρ' ρ' H' (upd H' T (.tup [.ref b, w])) := Ext.side _ hT
        refine ⟨e3, hr.side _ hT, vr_tup.mpr ⟨T, _, rfl, upd_same, vrs_cons.mpr ⟨_, _, rfl, ?_, VRs.one ?_⟩⟩⟩
        · exact VR.mono e3 _ _ (tkeyOf_vr k2 hb)
        · exact VR.mono (e.trans e3) _ _ k3
      · rw [List.getElem?_map, Option.map_eq_none_iff, List.getElem?_eq_none_iff] at hx
        exact ⟨hz, by rw [← hk.len]; exact hx⟩
    · exact h1.elim
  · exact h1.elim
theorem xi_itemsT {elts : List Expr} {kk : Nat} {tpos apos cpos : Pos} (h : PEd X ct E a da) (hbase : attributeBase a "items" X.env (eval a X.env) = eval a X.env := by rfl) (hline : (apos.endLine == cpos.line) = true := by rfl) :
    PId X ct E (.Tuple elts kk tpos) (.Call (.Attribute a "items" apos) [] [] cpos) (dItIT da) := by
  obtain ⟨t, h1, h2⟩ := h
  exact ⟨_, pi_itemsT h1 hbase hline, snd_itIT h2⟩
end
end EE
set_option Elab.async false
set_option linter.all false
set_option maxRecDepth 100000
set_option maxHeartbeats 1000000
namespace EE
open PySem PySem.Spec PyProof.Rows L2
abbrev InBlk (X : Cx) (scope : Scope) (R : Cx → Prop) : Prop := ∀ (s : Shared) (H : Hp) (C : Addr) (cl : List (Str × Addr)) (fs : List Addr), R (X.blk s H scope (compEnvC scope cl C X.env) fs)
theorem obj_empty {o0 : HO} (ho0 : o0 = .dK [] ∨ o0 = .dT []) {P : Program} {w : World} {H : Hp} (h : Heap) (hb : sysModules < h.objs.size) : ObjOk P w H (h.push { cls := .type "dict", data := .dict #[] }) h.objs.size o0 := by
  rcases ho0 with rfl | rfl
  · exact dk_empty h hb
  · exact dt_empty h hb
section
variable {X : Cx}
theorem d_dictSet2 {pins : List (Addr × Obj)} {σ : L2.St} {H H' : Hp} {s : Shared} {E : Value → Shared → Prop} {D : Addr} {y v : V} {u r : Value} {Q : Unit → Shared → Prop} (hu : X.A.units + 1 < cLine) (I : Inv X pins σ H s) (g : DPut H D y v H')
    (ry : RelV y u) (rv : RelV v r) (h : ∀ s', Inv X pins σ H' s' → Q () s') : wpAny (model X.prog X.w) X.A (dictSet D u r) Q E s := by
  rcases g with ⟨kvs, k, e, rfl, l, rfl⟩ | ⟨kvs, k, b, e, rfl, eb, l, rfl⟩
  · exact d_dictSet I e l ry rv h
  · cases (show u = Value.ref b from ry)
    obtain ⟨z, hd, xs, rel, dd⟩ := dt_of I.hok e
    have c1 : xs.length ≤ sizeLine := by rw [← Paired.length rel]; exact z
    have c2 := length_putK kvs k v
    refine wpAny_dictSet_heap (hsz := c1) (show X.A.units < cLine by omega) (key_of I.hok eb) dd fun h' dd' hs => h _ ?_
    obtain ⟨q, es, ep, j1, j2, j3, j4, _, j6⟩ := dd'
    refine d_write I (by rw [e]; exact True.intro) hs ⟨q, j1⟩ ⟨by omega, hd, _, (rel.put k eb rv).keeps fun c ys ec => ?_, q, es, ep, j1, j2, j3, j4, j6⟩
    have n : c ≠ D := ne_of ec e fun z => nomatch z
    rw [upd_ne n]
    exact ec
def tDcG (o0 : HO) (wi : TI) (g : TG) (tt : TT) (tk tv : TE) (vs : List Nat) : TE := fun σ H Q => wi σ H fun J H1 => ∀ D, H1 D = none → ∃ W : Nat → Nat → Hp → Prop, (∃ m, W 0 m (upd H1 D o0)) ∧ ∀ i m H, W i m H →
  (J.stop i H ∧ Q (.ref D) H) ∨ (J.go i H ∧ ∃ Nxt : Hp → Prop, (∀ H', Nxt H' → ∃ m', m' < m ∧ W (i + 1) m' H') ∧ ∀ x H', J.yld i H x H' → g x (wipe σ vs) H' fun σ2 H2 => wipe σ2 vs = wipe σ vs ∧ tt σ2 H2 fun b H3 =>
    if b = true then tk σ2 H3 fun y H4 => tv σ2 H4 fun z H5 => ∃ H6, DPut H5 D y z H6 ∧ Nxt H6 else Nxt H3)
theorem dict_comp_any {o0 : HO} (ho0 : o0 = .dK [] ∨ o0 = .dT []) (hu : X.A.units + 1 < cLine) {pins : List (Addr × Obj)} {s : Shared} {σ : L2.St} {H : Hp} {Q : VK} {kx vx tg iter : Expr} {ifs : List Expr} {scope : Scope} {own : List (Str × Nat)} {pos posq : Pos} {wi : TI} {g : TG} {tt : TT} {tk tv : TE} {use : Option (Value → Sem Unit)} {Qf : Value → Shared → Prop}
    (hc : X.calm = true) (hN : X.N.Nodup) (I : L2.Inv X pins σ H s) (hi : PI X tg iter wi) (ok : BlkOk X.N X.env.scope scope own)
    (hg : InBlk X scope fun Y => PG Y tg g) (ht : InBlk X scope fun Y => PTs Y ifs tt)
    (hk : InBlk X scope fun Y => PE Y kx tk)
    (he : InBlk X scope fun Y => PE Y vx tv) (hs : ∀ x, foldedSetIterable iter X.env x = pure x)
    (h : tDcG o0 wi g tt tk tv (own.map (·.2)) σ H Q)
    (hRR : ∀ D C s' m H', L2.Inv X pins σ H' s' → Q (.ref D) H' → s'.heap.Ns C m → FpOk X pins H' C → compPost (model X.prog X.w) X.A X.xe use Qf (.ref D) C (.ok .next) s') :
    wpAny (model X.prog X.w) X.A (comprehension (.DictComp kx vx [⟨tg, iter, ifs, 0⟩] scope pos) scope X.env posq newDict false (eval iter X.env) use) Qf X.xe s := by
  have frees : ∀ y ∈ scope.names, y.2 = .free → ∃ c, X.env.cells.lookup y.1 = some c := fun y hy e => by
    exact (ok.free y hy e).elim (fun k => I.ok.has _ (.inl k)) fun k => I.ok.has _ (.inr k)
  refine wpAny_comprehension_free (use := use) rfl hs (closure_ok frees) ok.kind (fun y hy e => by rw [ok.uniq y hy, e])
    (thn (hi.run pins s σ H _ I h) fun xv t1 hx => thn hx fun itv t2 h2 => ?_)
  obtain ⟨it, fps, tn, J, U2, e, J2, T, z2, w2, q⟩ := h2
  subst e
  refine wpAny_newObj_type (newEnv_comp ?_)
  generalize eD : t2.heap.objs.size = D
  have nD : U2 D = none := J2.hok.fresh (Nat.le_of_eq eD)
  obtain ⟨W, ⟨m0, w0⟩, turn⟩ := q D nD
  -- the new list
  generalize e3 : ({ t2 with heap := t2.heap.push { cls := .type "dict", data := .dict #[] } } : Shared) = t3
  have J3 : L2.Inv X pins σ (upd U2 D o0) t3 := by
    rw [← e3]
    refine J2.laid (t' := t2.toks) (fun b o e => Heap.get?_push_of_some _ e) (Nat.le_of_eq eD) ?_
    rw [← eD]
    exact obj_empty ho0 t2.heap J2.big
  have h3 : t3.heap = t2.heap.push { cls := .type "dict", data := .dict #[] } := by rw [← e3]
  have small : ∀ b ∈ fps, b < t2.heap.objs.size := fun b hb => by
    obtain ⟨o, e, _⟩ := T.obj _ _ z2 b hb
    exact Heap.lt_size e
  have w3 : ∀ b ∈ fps, FpOk X pins (upd U2 D o0) b ∧ b < t3.heap.objs.size := fun b hb => by
    have hlt := small b hb
    refine ⟨⟨?_, (w2 b hb).2⟩, by rw [h3, Heap.size_push]; exact Nat.lt_succ_of_lt hlt⟩
    rw [upd_ne (by rw [← eD]; exact Nat.ne_of_lt hlt)]
    exact (w2 b hb).1
  have z3 : tn 0 t3.heap := T.keep _ _ _ z2 fun b _ o e => by rw [h3]; exact Heap.get?_push_of_some _ e
  have J4 := block_start J3 ok hN w3
  have qg := hg t3 (upd U2 D o0) t3.heap.objs.size (cellsFrom (t3.heap.objs.size + 1) scope.names (cloFrom X.env.cells scope.names [])) fps
  have qt := ht t3 (upd U2 D o0) t3.heap.objs.size (cellsFrom (t3.heap.objs.size + 1) scope.names (cloFrom X.env.cells scope.names [])) fps
  have qk := hk t3 (upd U2 D o0) t3.heap.objs.size (cellsFrom (t3.heap.objs.size + 1) scope.names (cloFrom X.env.cells scope.names [])) fps
  have qe := he t3 (upd U2 D o0) t3.heap.objs.size (cellsFrom (t3.heap.objs.size + 1) scope.names (cloFrom X.env.cells scope.names [])) fps
  show codeAny _ _ (.compStart (.DictComp kx vx [⟨tg, iter, ifs, 0⟩] scope pos) 0 (.ref it) (.ref D) (compEnvC scope (cellsFrom (t3.heap.objs.size + 1) scope.names (cloFrom X.env.cells scope.names [])) t3.heap.objs.size X.env)) (compPost (model X.prog X.w) X.A X.xe use Qf (.ref D) t3.heap.objs.size) { t3 with heap := pushCells (t3.heap.push { cls := .type "dict", data := .dict #[] }) scope.names }
  have nfp : ∀ b ∈ fps, (upd U2 D o0) b = none := fun b hb => (w3 b hb).1.1
  generalize hce : compEnvC scope (cellsFrom (t3.heap.objs.size + 1) scope.names (cloFrom X.env.cells scope.names [])) t3.heap.objs.size X.env = cenv at J4 qg qt qk qe ⊢
  have cL : cenv.locals = t3.heap.objs.size := by subst hce; rfl
  generalize hH3 : upd U2 D o0 = U3 at J3 J4 qg qt qk qe w0 nfp w3
  generalize e4 : ({ t3 with heap := pushCells (t3.heap.push { cls := .type "dict", data := .dict #[] }) scope.names } : Shared) = t4 at J4 ⊢
  have z4 : tn 0 t4.heap := T.keep _ _ _ z3 fun b _ o e => by rw [← e4]; exact pushCells_keeps _ _ _ _ (Heap.get?_push_of_some _ e)
  have stays : ∀ {σ' : L2.St} {H' : Hp} {s' : Shared}, L2.Inv (X.blk t3 U3 scope cenv fps) [] σ' H' s' → (∀ b ∈ fps, H' b = none) → ∀ b ∈ fps, FpOk (X.blk t3 U3 scope cenv fps) [] H' b := fun {σ' H' s'} Jq hn b hb =>
    ⟨hn b hb, (Jq.ok.exf b hb).1, Jq.ok.exfs b hb, .inl hb, fun x c e => (Jq.ok.exf b hb).2 x c e, fun p hp => absurd (show p ∈ ([] : List (Addr × Obj)) ++ [] from hp) (by simp)⟩
  have looped : codeAny (model X.prog X.w) X.A (.compLoop (.DictComp kx vx [⟨tg, iter, ifs, 0⟩] scope pos) 0 (.ref it) (.ref D) cenv) (compPost (model X.prog X.w) X.A X.xe use Qf (.ref D) t3.heap.objs.size) t4 := by
    refine compLoop_anyD (fun n s' => ∃ i H', L2.Inv (X.blk t3 U3 scope cenv fps) [] (wipe σ (own.map (·.2))) H' s' ∧ tn i s'.heap ∧ (∀ b ∈ fps, H' b = none) ∧ W i n H') ?_ m0 ⟨0, U3, J4, z4, nfp, w0⟩
    rintro n t5 ⟨i, U5, J5, z5, n5, w5⟩
    rcases turn i n U5 w5 with ⟨stops, qq⟩ | ⟨goes, Nxt, hNxt, step⟩
    · have td := T.done (X.blk t3 U3 scope cenv fps) rfl rfl rfl hc i [] t5 _ U5 (fun _ _ => False) J5 (stays J5 n5) z5 stops
      refine thnF td fun r t6 ⟨hr, J6⟩ => ?_
      subst hr
      -- back in the def's context
      have J7 : L2.Inv X pins σ U5 t6 := J3.call' (ch := fps) J6.os J6.base J6.hok J6.bare fun b hb => ⟨(w3 b hb).1.2.2.2.1, (w3 b hb).1.2.1, (w3 b hb).1.2.2.2.2.1, (w3 b hb).1.2.2.2.2.2⟩
      have nC : U5 t3.heap.objs.size = none := by
        have z : U5 cenv.locals = none := J6.free
        rw [cL] at z
        exact z
      obtain ⟨m, hn, _⟩ := J6.loc
      have hn : t6.heap.Ns cenv.locals m := hn
      rw [cL] at hn
      exact hRR D t3.heap.objs.size t6 m U5 J7 qq hn (J3.fpOk (Nat.le_refl _) nC)
    · have ti := T.item (X.blk t3 U3 scope cenv fps) rfl rfl rfl hc i [] t5 _ U5 (fun _ _ => False) J5 (stays J5 n5) z5 goes
      refine thnF ti fun r t6 ⟨u, hr, h6⟩ => ?_
      subst hr
      refine thnF h6 fun _ t7 ⟨x, U7, J7, r7, y7, z7, n7⟩ => ?_
      have J7' := J7.pinned (stays J7 n7) (T.obj _ _ z7)
      refine thnF (qg.run _ t7 _ U7 x u _ J7' r7 (step x U7 y7)) fun _ t8 ⟨σ8, U8, J8, hwp, q8⟩ => ?_
      refine thnF (qt.run _ t8 σ8 U8 _ J8 q8) fun b t9 ⟨U9, J9, qn⟩ => ?_
      -- the turn's end
      have fin : ∀ {s' : Shared} {H' : Hp}, L2.Inv (X.blk t3 U3 scope cenv fps) ([] ++ pinsAt fps t7.heap) σ8 H' s' → Nxt H' → ∃ m, m < n ∧ ∃ i H', L2.Inv (X.blk t3 U3 scope cenv fps) [] (wipe σ (own.map (·.2))) H' s' ∧ tn i s'.heap ∧ (∀ b ∈ fps, H' b = none) ∧ W i m H' := fun {s' H'} Jq nx => by
        obtain ⟨m', hm, w'⟩ := hNxt H' nx
        have pin' : ∀ b ∈ fps, ∀ o, t7.heap.get? b = some o → s'.heap.get? b = some o ∧ H' b = none := fun b hb o e =>
          let z := Jq.pin (b, o) (List.mem_append_right _ (List.mem_append_right _ (mem_pinsAt hb e)))
          ⟨z.1, z.2.1⟩
        have hl : (wipe σ (own.map (·.2))).length = σ8.length := by rw [← hwp, wipe_length]
        refine ⟨m', hm, i + 1, H', (Jq.unpinned (pins := [])).weak hl (fun j v e => ?_), T.keep _ _ _ z7 fun b hb o e => (pin' b hb o e).1, fun b hb => ?_, w'⟩
        · rw [← hwp] at e
          exact (wipe_some e).1
        · obtain ⟨o, e, _⟩ := T.obj _ _ z7 b hb
          exact (pin' b hb o e).2
      cases b with
      | false =>
        simp only [Bool.false_eq_true, if_false] at qn ⊢
        exact fin J9 qn
      | true =>
        simp only [if_true] at qn ⊢
        refine thnF (qk.run _ t9 σ8 U9 _ J9 qn) fun z s10 ⟨yk, H10, I10, r10, q10⟩ => ?_
        refine thnF (qe.run _ s10 σ8 H10 _ I10 q10) fun z2 s11 ⟨yv, H11, I11, r11, H12, put, nx⟩ => ?_
        exact d_dictSet2 (X := X.blk t3 U3 scope cenv fps) hu I11 put r10 r11 fun s12 I12 => fin I12 nx
  exact codeAny_compStart_dict looped (T.self X.A 0 _ _ _ z4 looped)
theorem pe_dcG {o0 : HO} (ho0 : o0 = .dK [] ∨ o0 = .dT []) (hu : X.A.units + 1 < cLine) {kx vx tg iter : Expr} {ifs : List Expr} {scope : Scope} {own : List (Str × Nat)} {pos : Pos} {wi : TI} {g : TG} {tt : TT} {tk tv : TE} (hc : X.calm = true) (hN : X.N.Nodup) (hi : PI X tg iter wi) (ok : BlkOk X.N X.env.scope scope own)
    (hg : InBlk X scope fun Y => PG Y tg g) (ht : InBlk X scope fun Y => PTs Y ifs tt)
    (hk : InBlk X scope fun Y => PE Y kx tk)
    (hv : InBlk X scope fun Y => PE Y vx tv) (hs : ∀ x, foldedSetIterable iter X.env x = pure x := by intro _; rfl) :
    PE X (.DictComp kx vx [⟨tg, iter, ifs, 0⟩] scope pos) (tDcG o0 wi g tt tk tv (own.map (·.2))) := by
  refine ⟨fun pins s σ H Q I h => ?_⟩
  rw [arm_eval_DictComp]
  refine dict_comp_any ho0 hu hc hN I hi ok hg ht hk hv hs h fun D C s' m H' Jq q hn f => ⟨m, hn, fun h'' sb => ?_⟩
  exact ⟨.ref D, H', Jq.turned (t' := s'.toks) (fun b o hb e => (sb.2 b hb).trans e) f.1 f.2.1 f.2.2.2.1 f.2.2.2.2.1 f.2.2.2.2.2, rfl, q⟩
end
end EE
set_option Elab.async false
set_option linter.all false
set_option maxRecDepth 100000
set_option maxHeartbeats 1000000
namespace EE
open PySem PySem.Spec PyProof.Rows L2
def dcGo (kd : Bool) (it : Wlk) (g : DG) (t : DT) (k e : DE) (vs : List Nat) : Nat → Nat → List (EV × EV) → ES → EH → Res (List (EV × EV))
  | 0, _, _, _, _ => .no
  | m + 1, i, acc, es, h => match it.cur h with
    | none => .no
    | some xs => match xs[i]? with
      | none => .ok acc h
      | some x => (g (it.tl i x) (wip es vs) h).bind fun es1 h1 => (t es1 h1).bind fun b h2 =>
        if b = true then (k es1 h2).bind fun y h3 => (e es1 h3).bind fun z h4 => match dputE kd acc y z with
          | some acc' => if acc.length < 50000 then dcGo kd it g t k e vs m (i + 1) acc' es h4 else .no
          | none => .no
        else dcGo kd it g t k e vs m (i + 1) acc es h2
def dDc (kd : Bool) (di : DI) (g : DG) (t : DT) (k e : DE) (vs : List Nat) : DE := fun es h => (di es h).bind fun it h1 => match it.cur h1 with
  | none => .no
  | some xs => (dcGo kd it g t k e vs (xs.length + 1) 0 [] es h1).bind fun ys h2 => .ok (.ref h2.length) (h2 ++ [.dic kd ys])
def o0 : Bool → HO
  | false => .dK []
  | true => .dT []
theorem o0_ok : ∀ kd, o0 kd = .dK [] ∨ o0 kd = .dT []
  | false => .inl rfl
  | true => .inr rfl
theorem o0_dr {R : EV → V → Prop} : ∀ kd, DR R kd [] (o0 kd)
  | false => ⟨[], rfl, rfl⟩
  | true => ⟨[], rfl, rfl⟩
section
variable {G : Gx} {E : XK}
theorem put_raw {ρ : Rho} {H : Hp} {D : Addr} {u : HO} {kd : Bool} {kvs kvs' : List (EV × EV)} {x v : EV} {y w : V} (hD : H D = some u) (hd : DR (VR G.K ρ H) kd kvs u) (hp : dputE kd kvs x v = some kvs') (hl : kvs.length < 50000) (hx : VR G.K ρ H x y) (hv : VR G.K ρ H v w) :
    ∃ u', DPut H D y w (upd H D u') ∧ DR (VR G.K ρ H) kd kvs' u' := by
  have hz : kvs.length < sizeLine := Nat.lt_of_lt_of_le hl (by decide)
  cases kd with
  | false =>
    obtain ⟨l, rfl, hk⟩ := hd
    obtain ⟨k, e1, e2⟩ := Option.map_eq_some_iff.mp hp
    subst e2
    exact ⟨_, .inl ⟨l, k, hD, keyOf_eq e1 hx, by rw [← hk.len]; exact hz, rfl⟩, _, rfl, hk.put e1 hv⟩
  | true =>
    obtain ⟨l, rfl, hk⟩ := hd
    obtain ⟨k, e1, e2⟩ := Option.map_eq_some_iff.mp hp
    subst e2
    obtain ⟨b, rfl, hb⟩ := tkeyOf_eq e1 hx
    exact ⟨_, .inr ⟨l, k, b, hD, rfl, hb, by rw [← hk.len]; exact hz, rfl⟩, _, rfl, hk.put e1 hv⟩
theorem ext0_upd2 {K : Fg} {ρ : Rho} {H : Hp} {p : Addr} {u0 u : HO} (h : H p = some u0) (h1 : ∀ xs, u0 ≠ .tup xs) (h2 : ∀ o v, u0 ≠ .frz o v) (h3 : NoTb u0) : Ext0 K ρ ρ H (upd H p u) where
  pre := ⟨[], by simp⟩
  xd := fun a ys q => by
    rw [upd_ne (fun z => by subst z; rw [h] at q; cases q; exact h3.2.2 _ rfl)]
    exact q
  tup := fun a ys q => by
    rw [upd_ne (fun z => by subst z; rw [h] at q; cases q; exact h1 _ rfl)]
    exact q
  frz := fun a o v q => by
    rw [upd_ne (fun z => by subst z; rw [h] at q; cases q; exact h2 _ _ rfl)]
    exact q
theorem snd_dc {kd : Bool} {wi : TI} {g : TG} {tt : TT} {tk te : TE} {vs : List Nat} {di : DI} {dg : DG} {dt : DT} {dk de : DE} (hi : SndI G E wi di) (hg : SndG G E g dg) (ho : OnlyIn g vs) (ht : SndT G E tt dt) (hk : SndE G E tk dk) (he : SndE G E te de) :
    SndE G E (tDcG (o0 kd) wi g tt tk te vs) (dDc kd di dg dt dk de vs) := fun ρ σ H es eh Q rel h => by
  refine hi.bind rel h fun ρ1 H1 it eh1 J e1 rel1 jr h1 => ?_
  split at h1
  · exact h1.elim
  · rename_i xs0 _
    intro Dl hD
    let St := fun (m i : Nat) (H : Hp) => ∃ ρ' eh acc us, Ext G.K ρ1 ρ' H1 H ∧ HR G ρ' H eh ∧ (true, Dl) ∉ ρ' ∧ H Dl = some us ∧ DR (VR G.K ρ' H) kd acc us ∧
      wr G (VR G.K) ρ1 H1 ((dcGo kd it dg dt dk de vs m i acc es eh).bind fun ys h2 => .ok (.ref h2.length) (h2 ++ [.dic kd ys])) Q E
    refine ⟨fun i m H => St m i H, ⟨_, ρ1, eh1, [], o0 kd, Ext.side _ hD, rel1.hr.side _ hD, rel1.hr.fresh hD, upd_same, o0_dr kd, h1⟩, ?_⟩
    rintro i m H' ⟨ρ', eh', acc, us, e', hr', hn, hDl, hacc, hw⟩
    cases m with
    | zero => exact hw.elim
    | succ m =>
      unfold dcGo at hw
      split at hw
      · exact hw.elim
      · rename_i xs hxs
        obtain ⟨j1, j2⟩ := jr ρ' H' eh' xs e' hr' hxs
        split at hw
        · rename_i hnone
          refine .inl ⟨j2 i hnone, ?_⟩
          have e5 := e'.push hD
          have e0 : Ext0 G.K ρ' (ρ' ++ [(true, Dl)]) H' H' := ⟨⟨[(true, Dl)], rfl⟩, fun _ _ q => q, fun _ _ _ q => q, fun _ _ q => q⟩
          exact hw (ρ' ++ [(true, Dl)]) H' _ e5 (hr'.push (o := .dic kd acc) hn rfl ⟨us, hDl, hacc.mono fun x v => VR.mono0 e0 x v⟩) (vr_ref.mpr ⟨Dl, last_get hr'.len, rfl⟩)
        · rename_i x hx
          obtain ⟨go, yl⟩ := j1 i x hx
          refine .inr ⟨go, fun H2 => St m (i + 1) H2, fun H2 q => ⟨m, Nat.lt_succ_self m, q⟩, fun y H3 hy => ?_⟩
          obtain ⟨e3, hr3, v3⟩ := yl y H3 hy
          have keepD : ∀ {ρa ρb : Rho} {Ha Hb : Hp}, Ext G.K ρa ρb Ha Hb → (true, Dl) ∉ ρa → Ha Dl = some us → (true, Dl) ∉ ρb ∧ Hb Dl = some us := fun e hn h => by
            refine ⟨fun hm => ?_, e.rest _ _ h hacc.pln.1 hn⟩
            rcases e.new _ hm with z | z
            · exact hn z
            · obtain ⟨ps, q⟩ := z _ h; exact hacc.pln.1 _ q
          have d3 := keepD e3 hn hDl
          have sr : SR G.K ρ' H3 (wip es vs) (wipe σ vs) := ((rel1.sl.mono e').mono e3).wip vs
          have en : Ext G.K ρ1 ρ' H1 H3 := e'.trans e3
          refine ho (wipe σ vs) y (wipe σ vs) H3 (fun σ2 H2 => tt σ2 H2 fun b H3 =>
              if b = true then tk σ2 H3 fun y H4 => te σ2 H4 fun z H5 => ∃ H6, DPut H5 Dl y z H6 ∧ St m (i + 1) H6 else St m (i + 1) H3) _ (wipe_wipe vs) (fun σ2 H2 w q => ⟨w, q⟩) ?_
          refine hg ρ' (wipe σ vs) H3 (wip es vs) eh' (it.tl i x) y _ ⟨sr, hr3⟩ v3 ?_
          cases qg : dg (it.tl i x) (wip es vs) eh' with
          | no =>
            rw [qg] at hw
            exact hw
          | er z h' =>
            rw [qg] at hw
            exact fun ρ' H' c own e' hr q => hw ρ' H' c own (en.trans e') hr q
          | ok es4 eh4 =>
            rw [qg] at hw
            intro ρ4 H4 σ4 e4 hr4 sr4
            have d4 := keepD e4 d3.1 d3.2
            simp only [bind_ok] at hw
            have hw4 : wr G (VR G.K) ρ1 H1 ((dt es4 eh4).bind fun b h2 => (if b = true then (dk es4 h2).bind fun y h3 => (de es4 h3).bind fun z h4 => match dputE kd acc y z with
                | some acc' => if acc.length < 50000 then dcGo kd it dg dt dk de vs m (i + 1) acc' es h4 else .no
                | none => .no else dcGo kd it dg dt dk de vs m (i + 1) acc es h2).bind fun ys h2 => .ok (.ref h2.length) (h2 ++ [.dic kd ys])) Q E := by
              cases qt : dt es4 eh4 with
              | ok b h2 => rw [qt] at hw; exact hw
              | er z h2 => rw [qt] at hw; exact hw
              | no => rw [qt] at hw; exact hw
            refine ht.bind0 ⟨sr4, hr4⟩ (en.trans e4) hw4 fun ρ5 H5 b eh5 b' e5 rel5 v5 h5 => ?_
            subst v5
            have d5 := keepD e5 d4.1 d4.2
            have e15 := (en.trans e4).trans e5
            have acc5 : DR (VR G.K ρ5 H5) kd acc us := hacc.mono fun x v q => VR.mono ((e3.trans e4).trans e5) x v q
            cases b with
            | false => exact iteF ⟨ρ5, eh5, acc, us, e15, rel5.hr, d5.1, d5.2, acc5, h5⟩
            | true =>
              simp only [if_true] at h5
              have h5' : wr G (VR G.K) ρ1 H1 ((dk es4 eh5).bind fun y h3 => ((de es4 h3).bind fun z h4 => match dputE kd acc y z with
                | some acc' => if acc.length < 50000 then dcGo kd it dg dt dk de vs m (i + 1) acc' es h4 else .no
                | none => .no).bind fun ys h2 => .ok (.ref h2.length) (h2 ++ [.dic kd ys])) Q E := by
                cases qt : dk es4 eh5 with
                | ok b h2 => rw [qt] at h5; exact h5
                | er z h2 => rw [qt] at h5; exact h5
                | no => rw [qt] at h5; exact h5
              refine iteT (hk.bind0 rel5 e15 h5' fun ρ6 H6 y6 eh6 u6 e6 rel6 v6 h6 => ?_)
              have d6 := keepD e6 d5.1 d5.2
              have h6' : wr G (VR G.K) ρ1 H1 ((de es4 eh6).bind fun z h4 => (match dputE kd acc y6 z with
                | some acc' => if acc.length < 50000 then dcGo kd it dg dt dk de vs m (i + 1) acc' es h4 else .no
                | none => .no).bind fun ys h2 => Res.ok (EV.ref h2.length) (h2 ++ [EO.dic kd ys])) Q E := by
                cases qt : de es4 eh6 with
                | ok b h2 => rw [qt] at h6; exact h6
                | er z h2 => rw [qt] at h6; exact h6
                | no => rw [qt] at h6; exact h6
              refine he.bind0 rel6 (e15.trans e6) h6' fun ρ7 H7 z7 eh7 u7 e7 rel7 v7 h7 => ?_
              have d7 := keepD e7 d6.1 d6.2
              have acc7 : DR (VR G.K ρ7 H7) kd acc us := acc5.mono fun x v q => VR.mono (e6.trans e7) x v q
              split at h7
              · rename_i acc' ha'
                split at h7
                · rename_i hl
                  obtain ⟨u', p1, p2⟩ := put_raw (G := G) d7.2 acc7 ha' hl (v6.mono e7) v7
                  have em : Ext G.K ρ1 ρ7 H1 (upd H7 Dl u') := ((e15.trans e6).trans e7).mut hD
                  have eb : Ext0 G.K ρ7 ρ7 H7 (upd H7 Dl u') := ext0_upd2 d7.2 acc7.ntup acc7.nfrz acc7.pln
                  exact ⟨_, p1, ρ7, eh7, acc', u', em, rel7.hr.ext eb (fun a ha => upd_ne fun z => d7.1 (z ▸ ha)) (tabs_upd rel7.hr.tab fun v hv => by rw [d7.2] at hv; cases hv; exact hacc.pln), d7.1, upd_same, p2.mono fun x v q => VR.mono0 eb x v q, h7⟩
                · exact h7.elim
              · exact h7.elim
variable {X : Cx} {ct : Nat → Addr × List Str} {kx vx tg iter c : Expr} {scope : Scope} {pos : Pos} {di : DI} {dg : DG} {dt : DT} {dk de : DE}
theorem xe_dc (kd : Bool) (own : List (Str × Nat)) {g : TG} (hu : X.A.units + 1 < cLine) (hc : X.calm = true) (hN : X.N.Nodup) (hi : PId X ct E tg iter di) (hk : InBlk X scope fun Y => PEd Y ct E kx dk) (hv : InBlk X scope fun Y => PEd Y ct E vx de)
    (hg : InBlk X scope fun Y => PG Y tg g) (hg2 : SndG ⟨X.K, ct⟩ E g dg) (ho : OnlyIn g (own.map (·.2)))
    (ok : blkC X.N X.env.scope scope own = true := by kernel_rfl) (hs : ∀ x, foldedSetIterable iter X.env x = pure x := by intro _; rfl) :
    PEd X ct E (.DictComp kx vx [⟨tg, iter, [], 0⟩] scope pos) (dDc kd di dg dYes dk de (own.map (·.2))) := by
  obtain ⟨wi, i1, i2⟩ := hi
  exact ⟨_, pe_dcG (o0_ok kd) hu hc hN i1 (blkOk_by ok) hg (fun _ _ _ _ _ => pts_nil) (fun s H C cl fp => (hk s H C cl fp).can) (fun s H C cl fp => (hv s H C cl fp).can) hs, snd_dc i2 hg2 ho snd_yes snd_tE snd_tE⟩
theorem xe_dci (kd : Bool) (own : List (Str × Nat)) {g : TG} (hu : X.A.units + 1 < cLine) (hc : X.calm = true) (hN : X.N.Nodup) (hi : PId X ct E tg iter di) (ht : InBlk X scope fun Y => PTd Y ct E c dt) (hk : InBlk X scope fun Y => PEd Y ct E kx dk) (hv : InBlk X scope fun Y => PEd Y ct E vx de)
    (hg : InBlk X scope fun Y => PG Y tg g) (hg2 : SndG ⟨X.K, ct⟩ E g dg) (ho : OnlyIn g (own.map (·.2)))
    (ok : blkC X.N X.env.scope scope own = true := by kernel_rfl) (hs : ∀ x, foldedSetIterable iter X.env x = pure x := by intro _; rfl) :
    PEd X ct E (.DictComp kx vx [⟨tg, iter, [c], 0⟩] scope pos) (dDc kd di dg dt dk de (own.map (·.2))) := by
  obtain ⟨wi, i1, i2⟩ := hi
  exact ⟨_, pe_dcG (o0_ok kd) hu hc hN i1 (blkOk_by ok) hg (fun s H C cl fp => pts_one (ht s H C cl fp).can) (fun s H C cl fp => (hk s H C cl fp).can) (fun s H C cl fp => (hv s H C cl fp).can) hs, snd_dc i2 hg2 ho snd_tT snd_tE snd_tE⟩
end
end EE
set_option Elab.async false
set_option linter.all false
set_option maxRecDepth 100000
set_option maxHeartbeats 1000000
namespace EE
open PySem PySem.Spec PyProof.Rows L2
def mergeT (acc : List (List Key × V)) (rest : List (List Key × V)) : List (List Key × V) := rest.foldl (fun a q => putK a q.1 q.2) acc
theorem mergeT_len (rest : List (List Key × V)) : ∀ acc, (mergeT acc rest).length ≤ acc.length + rest.length := by
  induction rest with
  | nil => intro acc; exact Nat.le_refl _
  | cons q rest ih =>
    intro acc
    have h1 := ih (putK acc q.1 q.2)
    have h2 := length_putK acc q.1 q.2
    show (mergeT (putK acc q.1 q.2) rest).length ≤ _
    rw [List.length_cons]
    omega
section
variable {X : Cx}
def PairT (H : Hp) (b : Addr) (q : List Key × V) : Prop := ∃ kb : Addr, H b = some (.tup [.ref kb, q.2]) ∧ H kb = some (.tup (q.1.map kV))
theorem pairT_is {pins : List (Addr × Obj)} {σ : L2.St} {H : Hp} {s : Shared} {b : Addr} {q : List Key × V} (I : L2.Inv X pins σ H s) (h : PairT H b q) : ∃ (kb : Addr) (u : Value), IsTup s.heap b #[.ref kb, u] ∧ RelV q.2 u ∧ H kb = some (.tup (q.1.map kV)) := by
  obtain ⟨kb, h1, h2⟩ := h
  obtain ⟨_, its, r, o, ho, hc, n, hd⟩ := I.hok b _ h1
  obtain ⟨w1, w2, rfl, r1, r2⟩ := vals2 r
  cases r1
  exact ⟨kb, w2, ⟨o, ho, hc, n, hd⟩, r2, h2⟩
theorem updT_loop {A : Around} {R : Result → Shared → Prop} {pins : List (Addr × Obj)} {σ : L2.St} {H : Hp} {S Ia l : Addr} {items : Array Value} {res : Value} (hu : A.units + 1 < cLine) (hh : A.handled = none) (hS : H S = none) (nlI : l ≠ Ia) (nSI : S ≠ Ia) (nSl : S ≠ l) :
    ∀ (rest : List (List Key × V)) (i : Nat) (acc : List (List Key × V)) (ix : Int) (t : Tok) (s : Shared), items.size = i + rest.length → acc.length + rest.length ≤ sizeLine →
      (∀ (j : Nat) (q : List Key × V), rest[j]? = some q → ∃ b : Addr, items[i + j]? = some (.ref b) ∧ PairT H b q) →
      L2.Inv X pins σ (upd H S (.dT acc)) s → FpOk X pins H Ia → s.heap.IsListIter Ia l i → s.heap.IsList l items →
      (∀ s', L2.Inv X pins σ (upd H S (.dT (mergeT acc rest))) s' → R (.ok (.ret res)) s') →
      codeAny (model X.prog X.w) A (.builtin "dict.update.loop" ⟨[.ref S, .ref Ia, .int ix t, res], []⟩) R s := by
  intro rest
  induction rest with
  | nil =>
    intro i acc ix t s hsz hln hat I f hit hl hR
    refine codeAny_builtin ud_entry ?_
    rw [Around.under_plainId ud_plain _]
    show wpAny _ A.in1 (pyNext (.ref Ia) >>= _) _ _ s
    have hnone : items[i]? = none := Array.getElem?_eq_none (by rw [hsz, List.length_nil]; exact Nat.le_refl _)
    refine wpAny_bind (wpAny_pyNext_list_end (A := A.in1) hh hit hl hnone fun h' he => ?_)
    refine wpAny_bind (m := Builtin.Dict.addKeywords S []) (wpAny_pure (wpAny_pure ?_))
    obtain ⟨f0, f1, f2, f3, f4, f5⟩ := f
    exact hR _ (I.turned (t' := s.toks) (fun b o hb e => he b o hb e) (by rw [upd_ne (Ne.symm nSI)]; exact f0) f1 f3 f4 f5)
  | cons q rest ih =>
    intro i acc ix t s hsz hln hat I f hit hl hR
    obtain ⟨b, hb, hpair⟩ := hat 0 q rfl
    rw [List.length_cons] at hsz hln
    have upS : ∀ {a : Addr} {u : HO}, H a = some u → a ≠ S := fun e z => by
      rw [z, hS] at e
      cases e
    have hpair' : PairT (upd H S (.dT acc)) b q := by
      obtain ⟨kb, h1, h2⟩ := hpair
      exact ⟨kb, by rw [upd_ne (upS h1)]; exact h1, by rw [upd_ne (upS h2)]; exact h2⟩
    obtain ⟨f0, f1, f2, f3, f4, f5⟩ := id f
    refine codeAny_builtin ud_entry ?_
    rw [Around.under_plainId ud_plain _]
    show wpAny _ A.in1 (pyNext (.ref Ia) >>= _) _ _ s
    refine wpAny_bind (wpAny_pyNext_list_item (x := .ref b) hit hl (by simpa using hb) fun h1 hit1 sb1 => ?_)
    have I1 : L2.Inv X pins σ (upd H S (.dT acc)) { s with heap := h1 } := I.turned (t' := s.toks) (fun b o hb e => (sb1.2 b hb).trans e) (by rw [upd_ne (Ne.symm nSI)]; exact f0) f1 f3 f4 f5
    have hl1 : h1.IsList l items := hl.extBut sb1.extBut nlI
    obtain ⟨kb, u, ht1, ru, hkb⟩ := pairT_is I1 hpair'
    obtain ⟨o, ho, hc, n, hd⟩ := id ht1
    refine wpAny_bind (wpAny_holding (wpAny_bind (wpAny_tryCatch ?_)))
    unfold Builtin.Dict.pairItems
    refine wpAny_bind (wpAny_typeOf (T := "tuple") ⟨o, ho, hc⟩ ?_)
    rw [if_pos (by decide)]
    refine wpAny_bind (wpAny_seqItems ho hd (wpAny_pure ?_))
    show wpAny _ A.in1 (holding [.ref kb, u] (dictSet S (.ref kb) u)) _ _ _
    obtain ⟨z, hsys, xs, rel, dd⟩ := dt_of I1.hok (upd_same : (upd H S (HO.dT acc)) S = _)
    have c1 : xs.length ≤ sizeLine := by rw [← Paired.length rel]; exact z
    have c2 := length_putK acc q.1 q.2
    refine wpAny_holding (wpAny_dictSet_heap (hsz := c1) (show A.units + 1 < cLine from hu) (key_of I1.hok hkb) dd fun h2 dd2 sb2 => ?_)
    obtain ⟨od, es, ep, k1, k2, k3, k4, _, k6⟩ := dd2
    have e2 : upd (upd H S (.dT acc)) S (.dT (putK acc q.1 q.2)) = upd H S (.dT (putK acc q.1 q.2)) := by
      funext a
      by_cases ha : a = S
      · rw [ha, upd_same, upd_same]
      · rw [upd_ne ha, upd_ne ha, upd_ne ha]
    have I2 : L2.Inv X pins σ (upd H S (.dT (putK acc q.1 q.2))) { s with heap := h2, toks := s.toks + (tupleKind (mixKind X.prog X.w)).draws q.1 } := by
      rw [← e2]
      refine d_write (s := { s with heap := h1 }) I1 (by rw [upd_same]; exact True.intro) sb2 ⟨od, k1⟩ ⟨by omega, hsys, _, (rel.put q.1 hkb ru).keeps fun c ys ec => ?_, od, es, ep, k1, k2, k3, k4, k6⟩
      rw [upd_ne (fun zz => by subst zz; rw [upd_same] at ec; cases ec)]
      exact ec
    refine wpAny_pure ⟨plainId_quiet ud_plain _, ih (i + 1) (putK acc q.1 q.2) (ix + 1) 0 _ (by omega) (by omega) (fun j q' e => ?_) I2 f (hit1.at fun o' e => (sb2.2 Ia (Ne.symm nSI)).trans e) (hl1.extBut sb2.extBut (Ne.symm nSl)) hR⟩
    obtain ⟨b', h1', h2'⟩ := hat (j + 1) q' (by simpa using e)
    exact ⟨b', by rw [show i + 1 + j = i + (j + 1) by omega]; exact h1', h2'⟩
def rDictT (K : Fg) : List V → Hp → VK → Prop := fun xs H Q => ∃ (a : Addr) (ps : List Addr) (kvs : List (List Key × V)), xs = [.ref a] ∧ SqL K H a (ps.map V.ref) ∧ Paired (PairT H) ps kvs ∧ ∀ p, H p = none → Q (.ref p) (upd H p (.dT (mergeT [] kvs)))
theorem call_dictPT (hcalm : X.calm = true) (hu : X.A.units + 2 < cLine) : CallR X (.type "dict") (rDictT X.K) := by
  intro pins s σ H xs us Q I r h
  obtain ⟨a, ps, kvs, rfl, hq, hp, q⟩ := h
  obtain ⟨u, rfl, rx⟩ := r.one
  cases rx
  obtain ⟨its, rv, pl, hz⟩ := I.list hq
  have ei := refs_at rv
  subst ei
  rw [List.length_map] at hz
  have hpl : ps.length = kvs.length := Paired.length hp
  obtain ⟨ol, n, hol, hc, hd, hdat⟩ := pl
  have hS0 : H s.heap.objs.size = none := I.hok.fresh (Nat.le_refl _)
  have I1 : L2.Inv X pins σ (upd H s.heap.objs.size (.dT [])) { s with heap := s.heap.push { cls := .type "dict", data := .dict #[] } } :=
    I.laid (t' := s.toks) (fun _ _ q => Heap.get?_push_of_some _ q) (Nat.le_refl _) (dt_empty s.heap I.big)
  refine callType_codes (Q₁ := fun obj s₁ => obj = .ref s.heap.objs.size ∧ s₁ = { s with heap := s.heap.push { cls := .type "dict", data := .dict #[] } }) PySem.F.kt_called_dict (PySem.F.kt_typeCall_dict_1 _) PySem.F.entry_dict_init (kt_code_dict_new _ ⟨rfl, rfl⟩) ?_
  rintro obj t1 ⟨rfl, rfl⟩
  have hnew : (s.heap.push { cls := .type "dict", data := .dict #[] }).get? s.heap.objs.size = some { cls := .type "dict", data := .dict #[] } := Heap.get?_push_size _ rfl
  have ty : Shared.TypeIs { s with heap := s.heap.push { cls := .type "dict", data := .dict #[] } } (.ref s.heap.objs.size) "dict" := ⟨_, hnew, rfl⟩
  refine ⟨ty, PySem.F.args_dict_init_2 _ _, ?_⟩
  unfold Builtin.«dict.__init__»
  refine wpAny_bind ?_
  unfold Builtin.Dict.selfAndRest
  refine wpAny_bind (wpAny_notOrdered_dict ty ?_)
  refine wpAny_pure ?_
  show wpAny _ _ (Builtin.Dict.updateFrom "dict.__init__" s.heap.objs.size (.ref a) [] .none) _ _ _
  unfold Builtin.Dict.updateFrom
  have hol1 := Heap.get?_push_of_some { cls := .type "dict", data := .dict #[] } hol
  refine wpAny_bind (wpAny_typeOf (T := "list") ⟨ol, hol1, hc⟩ ?_)
  rw [if_pos (by decide)]
  refine wpAny_bind (miss_list hol1 hc hdat hd (I.ok.hd hcalm) fun h1 tk1 hk1 => ?_)
  rw [if_pos (by rfl)]
  refine wpAny_bind (wpAny_rule ?_)
  have I2 : L2.Inv X pins σ (upd H s.heap.objs.size (.dT [])) { s with heap := h1, toks := tk1 } := I1.kept hk1
  have hl1 : h1.IsList a (ps.map Value.ref).toArray := ⟨ol, hk1 _ _ hol1, hc, n, hdat⟩
  refine wpAny_bind (wpAny_pyIter_list hl1 ?_)
  have I3 : L2.Inv X pins σ (upd H s.heap.objs.size (.dT [])) { s with heap := h1.push { cls := .type "list_iterator", data := .fields #[.ref a, .int 0 0] }, toks := tk1 } := I2.kept fun b o e => Heap.get?_push_of_some _ e
  have hS1 : s.heap.objs.size < h1.objs.size := Heap.lt_size (hk1 _ _ hnew)
  have ha : a < s.heap.objs.size := Heap.lt_size hol
  have hfz : H h1.objs.size = none := I.hok.fresh (Nat.le_of_lt hS1)
  have hfz2 : (upd H s.heap.objs.size (.dT [])) h1.objs.size = none := by rw [upd_ne (Nat.ne_of_gt hS1)]; exact hfz
  have f3 := I2.fpOk (b := h1.objs.size) (Nat.le_refl _) hfz2
  have f4 : FpOk X pins H h1.objs.size := ⟨hfz, f3.2⟩
  have key := updT_loop (X := X) (A := X.A.in1) (R := wants (fun r t2 => r = .none ∧ EP X pins σ Q (.ref s.heap.objs.size) t2) X.xe) (S := s.heap.objs.size) (Ia := h1.objs.size) (l := a) (items := (ps.map Value.ref).toArray) (res := Value.none)
    (show X.A.units + 1 + 1 < cLine by omega) (I.ok.hd hcalm) hS0 (Nat.ne_of_lt (Nat.lt_trans ha hS1)) (Nat.ne_of_lt hS1) (Nat.ne_of_gt ha) kvs 0 [] 0 0
    { s with heap := h1.push { cls := .type "list_iterator", data := .fields #[.ref a, .int 0 0] }, toks := tk1 } (by rw [List.size_toArray, List.length_map, hpl, Nat.zero_add]) (by rw [List.length_nil, Nat.zero_add, ← hpl]; exact hz)
    (fun j q' e => by
      have : j < kvs.length := (List.getElem?_eq_some_iff.mp e).1
      have hj : ps[j]? = some ps[j] := List.getElem?_eq_getElem (by omega)
      obtain ⟨q2, e2, hq2⟩ := paired_get hp hj
      rw [e] at e2
      cases e2
      refine ⟨ps[j], ?_, hq2⟩
      rw [Nat.zero_add, List.getElem?_toArray, List.getElem?_map, hj]
      rfl)
    I3 f4 ⟨_, Heap.get?_push_size _ rfl, rfl, rfl⟩ (hl1.at fun o e => Heap.get?_push_of_some _ e) (fun s' I' => ⟨rfl, .ref s.heap.objs.size, _, I', rfl, q _ hS0⟩)
  first
    | exact wpAny_pure ⟨plainId_quiet ud_plain _, key⟩
    | exact wpAny_bind (wpAny_pure (wpAny_pure ⟨plainId_quiet ud_plain _, key⟩))
end
end EE
set_option Elab.async false
set_option linter.all false
set_option maxRecDepth 100000
set_option maxHeartbeats 1000000
namespace EE
open PySem PySem.Spec PyProof.Rows L2
def dfoldT : List (EV × EV) → List EV → Option (List (EV × EV))
  | acc, [] => some acc
  | acc, y :: r => match y with
    | .tup [k, v] => match dputE true acc k v with
      | some acc' => dfoldT acc' r
      | none => none
    | _ => none
def fDictT : DL := fun xs h => match xs with
  | [.ref n] => match lstAt h n with
    | some ys => match dfoldT [] ys with
      | some kvs => .ok (.ref h.length) (h ++ [.dic true kvs])
      | none => .no
    | none => .no
  | _ => .no
theorem dfoldT_ok {K : Fg} {ρ : Rho} {H : Hp} : ∀ {ys : List EV} {acc out : List (EV × EV)} {la : List (List Key × V)} {vs : List V}, KR tkeyOf (VR K ρ H) acc la → VRs K ρ H ys vs → dfoldT acc ys = some out →
    ∃ (ps : List Addr) (kvs : List (List Key × V)), vs = ps.map V.ref ∧ Paired (PairT H) ps kvs ∧ KR tkeyOf (VR K ρ H) out (mergeT la kvs)
  | [], acc, out, la, vs, hk, hv, h => by
    cases h
    rw [vrs_nil.mp hv]
    exact ⟨[], [], rfl, .nil, hk⟩
  | y :: r, acc, out, la, vs, hk, hv, h => by
    obtain ⟨v, vr, rfl, hv1, hv2⟩ := vrs_cons.mp hv
    unfold dfoldT at h
    split at h
    · rename_i k x
      split at h
      · rename_i acc' e1
        obtain ⟨kk, e2, e3⟩ := Option.map_eq_some_iff.mp e1
        subst e3
        obtain ⟨a, ws, rfl, hb, hw⟩ := vr_tup.mp hv1
        obtain ⟨w1, w2, rfl, h1, h2⟩ := vrs_two hw
        obtain ⟨kb, rfl, hkb⟩ := tkeyOf_eq e2 h1
        obtain ⟨ps, kvs, q1, q2, q3⟩ := dfoldT_ok (hk.put e2 h2) hv2 h
        exact ⟨a :: ps, (kk, w2) :: kvs, by rw [q1]; rfl, .cons ⟨kb, hb, hkb⟩ q2, q3⟩
      · cases h
    · cases h
section
variable {X : Cx} {ct : Nat → Addr × List Str} {E : XK} {G : Gx}
theorem c_dictT (hc : X.calm = true) (hu : X.A.units + 2 < cLine) : Cld X ct E (.type "dict") fDictT := ⟨_, call_dictPT hc hu, fun ρ H eh xs as Q hr hx h => by
  unfold fDictT at h
  split at h
  · rename_i n
    split at h
    · rename_i ys e1
      split at h
      · rename_i kvs e2
        obtain ⟨v, rfl, hv⟩ := vrs_one hx
        obtain ⟨a, vs, g1, g2, g3⟩ := lst_of hr e1
        obtain ⟨a', q1, rfl⟩ := vr_ref.mp hv
        rw [g1] at q1; cases q1
        obtain ⟨ps, l, rfl, k2, k3⟩ := dfoldT_ok (acc := []) (la := []) (K := X.K) (ρ := ρ) (H := H) rfl g3 e2
        refine ⟨a, ps, l, rfl, g2, k2, fun p hp => ?_⟩
        exact h (ρ ++ [(true, p)]) _ _ (Ext.alloc _ hp) (hr.alloc (o := .dic true kvs) hp rfl ⟨_, upd_same, _, rfl, k3.mono fun x v => VR.mono (Ext.alloc _ hp) x v⟩) (vr_ref.mpr ⟨p, last_get hr.len, rfl⟩)
      · exact h.elim
    · exact h.elim
  · exact h.elim⟩
def dTru (a : DE) : DT := fun es h => (a es h).bind fun x h1 => match x with
  | .tup xs => .ok (!xs.isEmpty) h1
  | .bl b => .ok b h1
  | .non => .ok false h1
  | .int i => .ok (i != 0) h1
  | .ref n => match lstAt h1 n with
    | some xs => .ok (!xs.isEmpty) h1
    | none => match mdicAt h1 n with
      | some (false, kvs) => .ok (!kvs.isEmpty) h1
      | _ => .no
  | _ => .no
theorem vrs_empty {K : Fg} {ρ : Rho} {H : Hp} : ∀ {xs : List EV} {vs : List V}, VRs K ρ H xs vs → xs.isEmpty = vs.isEmpty
  | [], vs, h => by rw [vrs_nil.mp h]; rfl
  | x :: xs, vs, h => by
    obtain ⟨v, r, rfl, _, _⟩ := vrs_cons.mp h
    rfl
variable {a : Expr} {d : DE}
theorem xt_tru (h : PEd X ct E a d) (he : ∀ whole, isTrue a X.env whole = (do let v ← whole; standAt a.pos; holding [v] (truthy v)) := by intro _; rfl) : PTd X ct E a (dTru d) := by
  obtain ⟨t, h1, h2⟩ := h
  refine ⟨_, pt_truth h1 he, fun ρ σ H es eh Q rel hw => ?_⟩
  refine h2.bind rel hw fun ρ1 H1 x eh1 u e1 rel1 v1 h1 => ?_
  cases x with
  | tup xs =>
    obtain ⟨p, vs, rfl, g2, g3⟩ := vr_tup.mp v1
    exact ⟨_, .inr (.inl ⟨vs, SqT.of g2, rfl⟩), h1 ρ1 H1 _ (Ext.refl _ _ _) rel1.hr (congrArg not (vrs_empty g3))⟩
  | bl b => rw [vr_bl.mp v1]; exact ⟨b, rfl, h1 ρ1 H1 _ (Ext.refl _ _ _) rel1.hr rfl⟩
  | non => rw [vr_non.mp v1]; exact ⟨false, rfl, h1 ρ1 H1 _ (Ext.refl _ _ _) rel1.hr rfl⟩
  | int i => rw [vr_int.mp v1]; exact ⟨_, rfl, h1 ρ1 H1 _ (Ext.refl _ _ _) rel1.hr rfl⟩
  | ref n =>
    simp only at h1
    split at h1
    · rename_i xs e2
      obtain ⟨a1, vs, g1, g2, g3⟩ := lst_of rel1.hr e2
      obtain ⟨a', q1, rfl⟩ := vr_ref.mp v1
      rw [g1] at q1; cases q1
      exact ⟨_, .inl ⟨vs, g2, rfl⟩, h1 ρ1 H1 _ (Ext.refl _ _ _) rel1.hr (congrArg not (vrs_empty g3))⟩
    · split at h1
      · rename_i kvs e2
        obtain ⟨a1, u, g1, g2, g3, _⟩ := mdic_of rel1.hr e2
        obtain ⟨a', q1, rfl⟩ := vr_ref.mp v1
        rw [g1] at q1; cases q1
        obtain ⟨l, rfl, hk⟩ := g3
        refine ⟨_, .inr (.inr ⟨l, g2, rfl⟩), h1 ρ1 H1 _ (Ext.refl _ _ _) rel1.hr (congrArg not ?_)⟩
        have := hk.len
        cases kvs <;> cases l <;> simp_all
      · exact h1.elim
  | _ => exact h1.elim
end
theorem hu1 {k : Nat} {A : Around} (hr : Room k A) : A.units + 1 < cLine := by have := hr.un; omega
theorem hu2 {k : Nat} {A : Around} (hr : Room k A) : A.units + 2 < cLine := by have := hr.un; omega
def spAny (K : Fg) (f : DL) : Sp := fun vs H Q E => ∀ ct : Nat → Addr × List Str, tabOf ct = [] → spD0 ⟨K, ct⟩ f vs H Q E
theorem _root_.L2.FnOk.any {P : Program} {w : World} {K : Fg} {mg : Str → Option Value} {base : Heap} {k : Nat} {f : Addr} {fd : FuncData} {ps : List Str} {fn : DL} {ct : Nat → Addr × List Str} (F : FnOk P w K mg base CX0 k f fd ps (spD0 ⟨K, ct⟩ fn)) (ht : tabOf ct = [] := by rfl) : FnOk P w K mg base CX0 k f fd ps (spAny K fn) :=
  ⟨fun vs H Q E h => F.len vs H Q E (h ct ht), fun A outer s H args us vs Q E h1 h2 h3 h4 h => F.run A outer s H args us vs Q E h1 h2 h3 h4 (h ct ht)⟩
theorem law_spA {K : Fg} {fn : DL} (hl : LawOk fn) {H : Hp} {a : Addr} {ns : List Int} (hn : ns.length ≤ 63) (hO : Only H) (hS : SqL K H a (ns.map V.int)) : spAny K fn [.ref a] H (fun v _ => v = .bl true) E0 := fun ct ht => law_sp hl hn hO hS ht
end EE
set_option Elab.async false
set_option linter.all false
set_option maxRecDepth 100000
set_option maxHeartbeats 1000000
namespace EE
open PySem PySem.Spec PyProof.Rows L2
section
variable {prog : Program} {w : World} {A : Around} {E : Value → Shared → Prop} {s : Shared}
theorem walks_rest (hh : A.handled = none) (Ia t : Addr) (ne : t ≠ Ia) (items : Array Value) (i0 : Nat) (h0 : i0 ≤ items.size) :
    Walks prog w A Ia [Ia, t] [Ia] (items.size - i0) (fun j v => items[i0 + j]? = some v) (fun j h => IsTupIter h Ia t (i0 + j) ∧ IsTup h t items) where
  sub := fun b hb => by
    rw [List.mem_singleton.mp hb]
    exact List.mem_cons_self
  frame := fun j h h' st k => by
    obtain ⟨⟨o, ho, r⟩, o2, ho2, r2⟩ := st
    exact ⟨⟨o, k Ia (by simp) o ho, r⟩, o2, k t (by simp) o2 ho2, r2⟩
  item := fun j s Q E hj st hQ => by
    have hlt : i0 + j < items.size := by omega
    refine next_tuple_item st.1 st.2 (x := items[i0 + j]) (by simp [hlt]) fun h1 hit hs => ?_
    exact hQ _ h1 s.toks (by simp [hlt]) ⟨hit, st.2.extBut hs.extBut ne⟩ fun b o hb e => hs.extBut b o (fun z => hb (by simp [z])) e
  done := fun s Q E st hQ => next_tuple_end hh st.1 st.2 (Array.getElem?_eq_none (by omega)) fun h1 he => hQ h1 s.toks fun b o hb e => he b o (fun z => hb (by simp [z])) e
  self := fun j s Q E st h => by
    obtain ⟨o, ho, hc, hd⟩ := st.1
    exact wpAny_pyIter_tupleiter ⟨o, ho, hc, hd⟩ h
theorem unpack_rest {t : Addr} {items : List Value} {i0 : Nat} {Q : List Value → Shared → Prop} (hh : A.handled = none) (ht : IsTup s.heap t items.toArray) (h0 : i0 ≤ items.length) (hz : items.length ≤ sizeLine)
    (hQ : ∀ (h2 : Heap) (tk : Nat), (∀ b o, s.heap.get? b = some o → h2.get? b = some o) → Q (items.take i0 ++ [.ref h2.objs.size]) { s with heap := h2.push { cls := .type "list", data := .seq (items.drop i0).toArray }, toks := tk }) :
    wpAny (model prog w) A (unpackItems (.ref t) (i0 + 1) (some i0)) Q E s := by
  have hlt : t ≠ s.heap.objs.size := by
    obtain ⟨o, ho, _⟩ := ht
    exact Nat.ne_of_lt (Heap.lt_size ho)
  unfold unpackItems
  refine wpAny_bind (m := notIterableAtAll _) ?_
  unfold notIterableAtAll
  refine wpAny_bind (wpAny_specialOf ht.typeIs slot_tuple_iter.lookup (wpAny_pure ?_))
  simp only [Bool.false_eq_true, if_false]
  refine wpAny_bind (wpAny_holding (iter_tuple ht ?_))
  refine wpAny_bind (wpAny_holding (draw_tuple hlt i0 0 _ _ ⟨_, Heap.get?_push_size _ rfl, rfl, rfl⟩ (ht.push _) (by simpa using h0) fun h1 hit1 sb1 => ?_))
  have e1 : List.take i0 (List.drop 0 items.toArray.toList) = items.take i0 := by simp
  rw [e1, if_neg (by rw [List.length_take]; omega)]
  have ht1 : IsTup h1 t items.toArray := (ht.push _).extBut sb1.extBut hlt
  rw [Nat.zero_add] at hit1
  have hsz : s.heap.objs.size < h1.objs.size := by
    obtain ⟨o, ho, _⟩ := hit1
    exact Heap.lt_size ho
  refine wpAny_bind (wpAny_holding (wpAny_collect_iter (T := "tuple_iterator") (.inr (.inr (.inr rfl))) (walks_rest (A := A.in1) hh s.heap.objs.size t hlt items.toArray i0 (by simpa using h0)).toS (fun j s' st => ?_) ⟨by rw [Nat.add_zero]; exact hit1, ht1⟩ (fun b hb => ?_) (by simp) (fun s2 acc hm hacc => ?_) (by simp; omega)))
  · obtain ⟨⟨o, ho, hc, _⟩, _⟩ := st
    exact ⟨o, ho, hc⟩
  · rcases List.mem_cons.mp hb with e | hb
    · rw [e]
      exact hsz
    · rw [List.mem_singleton.mp hb]
      exact ht1.lt
  · have ea : acc.toList = items.drop i0 := by
      have hl : acc.size = items.length - i0 := by simpa using hacc.1
      apply List.ext_getElem?
      intro j
      rw [List.getElem?_drop]
      cases hj : acc.toList[j]? with
      | none =>
        have := List.getElem?_eq_none_iff.mp hj
        rw [Array.length_toList] at this
        exact (List.getElem?_eq_none (by omega)).symm
      | some v =>
        have := hacc.2 j v (by rw [← Array.getElem?_toList]; exact hj)
        simpa using this.symm
    rw [ea, show i0 + 1 - 1 - i0 = 0 by omega, if_neg (by omega), Nat.sub_zero, List.take_length, List.drop_length]
    simp only [List.append_nil]
    refine wpAny_bind (wpAny_newList (wpAny_pure ?_) (by rw [List.length_drop]; omega))
    have hk : ∀ b o, s.heap.get? b = some o → s2.heap.get? b = some o := fun b o e => by
      have n : b ≠ s.heap.objs.size := Nat.ne_of_lt (Heap.lt_size e)
      exact hm.heap b o (by simpa using n) ((sb1.2 b n).trans (Heap.get?_push_of_some _ e))
    rw [Moved.eq_with hm]
    exact hQ _ _ hk
end
def gStar (K : Fg) (i0 : Nat) (t : TGs) : TG := fun v σ H Q => ∃ a xs, v = V.ref a ∧ SqT K H a xs ∧ i0 ≤ xs.length ∧ ∀ l, H l = none → t (xs.take i0 ++ [.ref l]) σ (upd H l (.lst (xs.drop i0))) Q
def dGStar (i0 : Nat) (r : DGs) : DG := fun x es h => match x with
  | .tup xs => if i0 ≤ xs.length then r (xs.take i0 ++ [.ref h.length]) es (h ++ [.lst (xs.drop i0)]) else .no
  | _ => .no
theorem vals_take {xs : List V} {us : List Value} (r : Vals xs us) : ∀ n, Vals (xs.take n) (us.take n) := by
  induction r with
  | nil => intro n; rw [List.take_nil, List.take_nil]; exact .nil
  | cons a r ih =>
    intro n
    cases n with
    | zero => exact .nil
    | succ n => exact .cons a (ih n)
theorem vals_drop {xs : List V} {us : List Value} (r : Vals xs us) : ∀ n, Vals (xs.drop n) (us.drop n) := by
  induction r with
  | nil => intro n; rw [List.drop_nil, List.drop_nil]; exact .nil
  | cons a r ih =>
    intro n
    cases n with
    | zero => exact .cons a r
    | succ n => exact ih n
section
variable {X : Cx} {ct : Nat → Addr × List Str} {E : XK} {G : Gx} {e : Expr} {es : List Expr} {pos p : Pos}
theorem pgs_star {t : TG} (h : PG X e t) (hs : (assignEach [.Starred e p] X.env).map (·.2) = [assign e X.env] := by rfl) (hs1 : (assignEach [e] X.env).map (·.2) = [assign e X.env] := by rfl) : PGs X [.Starred e p] (gCons t gNil) := by
  have q := pgs_cons h pgs_nil (by rw [hs1]; rfl)
  refine ⟨fun pins s σ H vs us Q I r hw => ?_⟩
  have := q.run pins s σ H vs us Q I r hw
  rw [hs1] at this
  rw [hs]
  exact this
theorem pg_tupStar {k i0 : Nat} {t : TGs} (hc : X.calm = true) (h : PGs X es t) (hn : (assignEach es X.env).length = i0 + 1 := by rfl) (hst : (assignEach es X.env).findIdx? (·.1) = some i0 := by rfl) : PG X (.Tuple es k pos) (gStar X.K i0 t) := by
  refine ⟨fun pins s σ H v u Q I r hw => ?_⟩
  obtain ⟨a, xs, rfl, hq, hl, hw⟩ := hw
  cases r
  obtain ⟨its, rv, ht, hz⟩ := I.tuple hq
  have hlen := rv.length
  rw [assign_Tuple]
  refine wpAny_bind (wpAny_standAt ?_)
  unfold unpack
  rw [hn, hst]
  refine wpAny_bind (wpAny_holding (unpack_rest (I.ok.hd hc) ht (by omega) (by omega) fun h2 tk hk => ?_))
  have I2 : L2.Inv X pins σ H { s with heap := h2, toks := tk } := I.kept hk
  have hf : H h2.objs.size = none := I2.hok.fresh (Nat.le_refl _)
  have new : ObjOk X.prog X.w (upd H h2.objs.size (.lst (xs.drop i0))) (h2.push { cls := .type "list", data := .seq (its.drop i0).toArray }) h2.objs.size (.lst (xs.drop i0)) :=
    ⟨by rw [List.length_drop]; omega, its.drop i0, 0, vals_drop rv i0, Heap.get?_push_size _ rfl⟩
  have I3 : L2.Inv X pins σ (upd H h2.objs.size (.lst (xs.drop i0))) { s with heap := h2.push { cls := .type "list", data := .seq (its.drop i0).toArray }, toks := tk } :=
    I2.laid (t' := tk) (fun b o e => Heap.get?_push_of_some _ e) (Nat.le_refl _) new
  exact h.run pins _ σ _ _ _ Q I3 ((vals_take rv i0).append (.cons (a := V.ref h2.objs.size) rfl .nil)) (hw _ hf)
theorem snd_gstar {i0 : Nat} {u : TGs} {ds : DGs} (h2 : SndGs G E u ds) : SndG G E (gStar G.K i0 u) (dGStar i0 ds) := fun ρ σ H es eh x us Q rel hx h => by
  cases x with
  | tup xs =>
    obtain ⟨a, vs, rfl, g2, g3⟩ := vr_tup.mp hx
    simp only [dGStar] at h
    split at h
    · rename_i hl
      refine ⟨a, vs, rfl, SqT.of g2, by rw [← g3.length]; exact hl, fun l hn => ?_⟩
      have e1 : Ext G.K ρ (ρ ++ [(true, l)]) H (upd H l (.lst (vs.drop i0))) := Ext.alloc _ hn
      have hr := rel.hr.alloc (u := .lst (vs.drop i0)) (o := .lst (xs.drop i0)) hn rfl ⟨_, upd_same, VRs.mono e1 _ _ (g3.drop i0)⟩
      exact h2 (ρ ++ [(true, l)]) σ _ es _ _ _ Q (rel.ext e1 hr) ((VRs.mono e1 _ _ (g3.take i0)).append (VRs.one (vr_ref.mpr ⟨l, last_get rel.hr.len, rfl⟩))) (h.mono e1)
    · exact h.elim
  | _ => exact h.elim
theorem xgs_star {d : DG} (h : PGd X ct E e d) (hs : (assignEach [.Starred e p] X.env).map (·.2) = [assign e X.env] := by rfl) (hs1 : (assignEach [e] X.env).map (·.2) = [assign e X.env] := by rfl) : PGsd X ct E [.Starred e p] (dGCons d dGNil) := by
  obtain ⟨t, a1, a2⟩ := h
  exact ⟨_, pgs_star a1 hs hs1, snd_gcons a2 snd_gnil⟩
theorem xg_star {k i0 : Nat} {d : DGs} (hc : X.calm = true) (h : PGsd X ct E es d) (hn : (assignEach es X.env).length = i0 + 1 := by rfl) (hst : (assignEach es X.env).findIdx? (·.1) = some i0 := by rfl) : PGd X ct E (.Tuple es k pos) (dGStar i0 d) := by
  obtain ⟨t, a1, a2⟩ := h
  exact ⟨_, pg_tupStar hc a1 hn hst, snd_gstar a2⟩
end
def MethDB (P : Program) (w : World) (K : Fg) (mg : Str → Option Value) (base : Heap) (ct : Nat → Addr × List Str) (k c : Nat) (m : Str) (fn : DL) : Prop := ∃ f fd ps, FnOk P w K mg base CX0 k f fd ps (spD0 ⟨K, ct⟩ fn) ∧ BMeth K (ct c).1 m f ∧ Binds K fd ps []
def TxB (K : Fg) (C : Addr) (m qual : Str) (st : Stmt) (ps : List Str) : Prop := ∃ f fd, Fun K m qual st f fd ∧ BMeth K C m f ∧ Binds K fd ps []
theorem TxB.m {K : Fg} {C : Addr} {m qual : Str} {st : Stmt} {ps : List Str} (T : TxB K C m qual st ps) : TxM K C m qual st ps := by
  obtain ⟨f, fd, F, b, hb⟩ := T
  exact ⟨f, fd, F, b.mt, hb⟩
section
variable {P : Program} {w : World} {K : PySem.W.Frag} {mg : Str → Option Value} {base : Heap} {ct : Nat → Addr × List Str}
theorem methdb_mk {c : Nat} {m qual : Str} {st : Stmt} {N ps : List Str} {k : Nat} {d : DS} (T : TxB K (ct c).1 m qual st ps) (S : FnScope N ps (defScope st))
    (h : ∀ (f : Addr) (cdv : Value) (A : Around) (outer : List Env) (s : Shared) (H : Hp) (E : XK), Room k (A.deeper (envOfC qual (defScope st) s.heap.objs.size f cdv)) → PSsd (cxOf CX0 P w K mg base N qual (defScope st) f cdv A outer s H E).nox ct E0 (defBody st) d) :
    MethDB P w K mg base ct (k + 1) c m (dDef ps.length N.length d) := by
  obtain ⟨f, fd, F, hm, hb⟩ := T
  exact ⟨f, fd, ps, fn_d F S (h f), hm, hb⟩
theorem MethDB.m {k c : Nat} {x : Str} {fn : DL} (F : MethDB P w K mg base ct k c x fn) : MethD P w K mg base ct k c x fn := by
  obtain ⟨f, fd, ps, h1, h2, h3⟩ := F
  exact ⟨f, fd, ps, h1, h2.mt, h3⟩
theorem MethDB.mono {j k c : Nat} {x : Str} {fn : DL} (F : MethDB P w K mg base ct j c x fn) (h : j ≤ k) : MethDB P w K mg base ct k c x fn := by
  obtain ⟨f, fd, ps, h1, h2⟩ := F
  exact ⟨f, fd, ps, h1.mono h, h2⟩
end
def tMethAny (K : Fg) (C : Addr) (m : Str) (g : Addr) (sp : Sp) (E : XK) (ta te : TE) : TE := fun σ H Q => ta σ H fun x H1 => ∃ a dx fs, x = V.ref a ∧ H1 a = some (.ins C dx fs) ∧ fs.lookup m = none ∧
  ∀ q, H1 q = none → te σ (upd H1 q (.met g a)) fun y H2 => ∃ b vs, y = V.ref b ∧ (SqT K H2 b vs ∨ SqL K H2 b vs) ∧ H2 q = some (.met g a) ∧ sp (.ref a :: vs) H2 Q E
theorem pe_methAny {X : Cx} {k : Nat} {C g : Addr} {m : Str} {sp : Sp} {E : XK} {o e : Expr} {ta te : TE} {p apos pos : Pos} (he : PE X o ta) (c : Cls X.K C) (b : BMeth X.K C m g) (F : FnR X.prog X.w X.K X.mg X.base CX0 k g sp) (hr : Room k X.A)
    (hx : Passes CX0 X E) (ha : PE X e te) (hbase : attributeBase o m X.env (eval o X.env) = eval o X.env) : PE X (.Call (.Attribute o m apos) [.Starred e p] [] pos) (tMethAny X.K C m g sp E ta te) := by
  refine ⟨fun pins s σ H Q I h => starcall_of hbase (thn (he.run pins s σ H _ I h) fun u t1 ⟨x, H1, I1, rx, a, dx, fs, ex, ea, l, q⟩ => ?_)⟩
  subst ex
  cases (show u = Value.ref a from rx)
  refine getbound_ok I1 ea c b l fun q1 t2 hq1 I2 => PySem.W.ks_call (P := PySem.W.MethP X.K q1 g (.ref a)) rfl (PySem.W.keeps_M b.fi) (PySem.W.ks_lone (thn (ha.run pins t2 σ _ _ I2 (q q1 hq1)) fun v t3 ⟨y, H2, I3, ry, bb, vs, ey, hb, hm, hsp⟩ => ?_))
  subst ey
  cases (show v = Value.ref bb from ry)
  refine StX.star_any I3 hb fun us t4 I4 rv => ⟨met_P I4 hm, wpAny_call (PySem.W.method_call (met_P I4 hm).1 (run_fnR (us := Value.ref a :: us) (vs := V.ref a :: vs) F hr hx I4 (.cons rfl rv) hsp))⟩
def itemsE (h : EH) : EV → Option (List EV)
  | .tup ys => some ys
  | .ref n => lstAt h n
  | _ => none
def dMethS (c : Nat) (fn : DL) (o e : DE) : DE := fun es h => (o es h).bind fun x h1 => match x with
  | .ref n => match objAt c h1 n with
    | some _ => (e es h1).bind fun y h2 => match itemsE h2 y with
      | some ys => (fn (.ref n :: ys) h2).noer
      | none => .no
    | none => .no
  | _ => .no
def dMethSB (c : Nat) (fn : DL) (o e1 e2 : DE) : DE := fun es h => (o es h).bind fun x h1 => match x with
  | .ref n => match objAt c h1 n with
    | some _ => (e1 es h1).bind fun y1 h2 => (e2 es h2).bind fun y h3 => match itemsE h3 y with
      | some ys => (fn (.ref n :: y1 :: ys) h3).noer
      | none => .no
    | none => .no
  | _ => .no
theorem items_of {G : Gx} {ρ : Rho} {H : Hp} {eh : EH} (hr : HR G ρ H eh) {y : EV} {v : V} {ys : List EV} (hv : VR G.K ρ H y v) (h : itemsE eh y = some ys) : ∃ b vs, v = .ref b ∧ (SqT G.K H b vs ∨ SqL G.K H b vs) ∧ VRs G.K ρ H ys vs := by
  unfold itemsE at h
  split at h
  · cases h
    obtain ⟨a, vs, rfl, h2, h3⟩ := vr_tup.mp hv
    exact ⟨a, vs, rfl, .inl (SqT.of h2), h3⟩
  · obtain ⟨a, vs, g1, g2, g3⟩ := lst_of hr h
    obtain ⟨a', q1, rfl⟩ := vr_ref.mp hv
    rw [g1] at q1; cases q1
    exact ⟨a, vs, rfl, .inr g2, g3⟩
  · cases h
section
variable {X : Cx} {ct : Nat → Addr × List Str} {E : XK} {e e1 e2 o : Expr} {pos p apos : Pos} {d de d1 d2 : DE} {m : Str}
theorem xe_methSB (c : Nat) {k : Nat} {fn : DL} (hc : Cd X.K (ct c)) (F : MethDB X.prog X.w X.K X.mg X.base ct k c m fn) (hr : Room k X.A) (hn : m ∉ (ct c).2) (ho : PEd X ct E o d) (h1 : PEd X ct E e1 d1) (h2 : PEd X ct E e2 d2)
    (hbase : attributeBase o m X.env (eval o X.env) = eval o X.env := by rfl) (hst : starEach [e1, .Starred e2 p] X.env = [(false, eval e1 X.env), (true, eval e2 X.env)] := by rfl) :
    PEd X ct E (.Call (.Attribute o m apos) [e1, .Starred e2 p] [] pos) (dMethSB c fn d d1 d2) := by
  obtain ⟨f, fd, ps, hF, hm, hb⟩ := F
  obtain ⟨t, a1, a2⟩ := ho
  obtain ⟨u1, b1, b2⟩ := h1
  obtain ⟨u2, c1, c2⟩ := h2
  refine ⟨_, pe_methSB a1 hc.cl hm (hF.raw hb .nil) hr pass0 b1 c1 hbase hst, fun ρ σ H es eh Q rel h => ?_⟩
  refine a2.bind rel h fun ρ1 H1 x eh1 v e1 rel1 v1 h1 => ?_
  split at h1
  · rename_i n
    split at h1
    · rename_i fs e3
      obtain ⟨a, dx, l, g1, g2, g3, g4, g5, g6, g7⟩ := obj_of rel1.hr e3
      have v1' := v1
      obtain ⟨a', q1, rfl⟩ := vr_ref.mp v1
      rw [g1] at q1; cases q1
      refine ⟨a, dx, l, rfl, g3, g7 m hn, fun q hq => ?_⟩
      have es0 : Ext X.K ρ1 ρ1 H1 (upd H1 q (.met f a)) := Ext.side _ hq
      have hr0 := rel1.hr.side (HO.met f a) hq
      have hnq := rel1.hr.fresh hq
      have w1 := h1.mono es0
      refine b2.bind (rel1.ext es0 hr0) w1 fun ρ2 H2 y1 eh2 u e2 rel2 v2 h2 => ?_
      refine c2.bind rel2 h2 fun ρ3 H3 y eh3 u3 e4 rel3 v3 h3 => ?_
      split at h3
      · rename_i ys hys
        obtain ⟨b, vs, rfl, j1, j2⟩ := items_of rel3.hr v3 hys
        refine ⟨b, vs, rfl, j1, (e2.trans e4).rest _ _ upd_same (fun _ z => nomatch z) hnq, ρ3, .ref n :: y1 :: ys, eh3, ?_, rel3.hr, wr_noer h3⟩
        rw [List.append_nil]
        exact vrs_cons.mpr ⟨.ref a, _, rfl, VR.mono (es0.trans (e2.trans e4)) _ _ v1', vrs_cons.mpr ⟨u, vs, rfl, v2.mono e4, j2⟩⟩
      · exact h3.elim
    · exact h1.elim
  · exact h1.elim
theorem xe_methS (c : Nat) {k : Nat} {fn : DL} (hc : Cd X.K (ct c)) (F : MethDB X.prog X.w X.K X.mg X.base ct k c m fn) (hr : Room k X.A) (hn : m ∉ (ct c).2) (ho : PEd X ct E o d) (h1 : PEd X ct E e de)
    (hbase : attributeBase o m X.env (eval o X.env) = eval o X.env := by rfl) : PEd X ct E (.Call (.Attribute o m apos) [.Starred e p] [] pos) (dMethS c fn d de) := by
  obtain ⟨f, fd, ps, hF, hm, hb⟩ := F
  obtain ⟨t, a1, a2⟩ := ho
  obtain ⟨u1, b1, b2⟩ := h1
  refine ⟨_, pe_methAny a1 hc.cl hm (hF.raw hb .nil) hr pass0 b1 hbase, fun ρ σ H es eh Q rel h => ?_⟩
  refine a2.bind rel h fun ρ1 H1 x eh1 v e1 rel1 v1 h1 => ?_
  split at h1
  · rename_i n
    split at h1
    · rename_i fs e3
      obtain ⟨a, dx, l, g1, g2, g3, g4, g5, g6, g7⟩ := obj_of rel1.hr e3
      have v1' := v1
      obtain ⟨a', q1, rfl⟩ := vr_ref.mp v1
      rw [g1] at q1; cases q1
      refine ⟨a, dx, l, rfl, g3, g7 m hn, fun q hq => ?_⟩
      have es0 : Ext X.K ρ1 ρ1 H1 (upd H1 q (.met f a)) := Ext.side _ hq
      have hr0 := rel1.hr.side (HO.met f a) hq
      have hnq := rel1.hr.fresh hq
      have w1 := h1.mono es0
      refine b2.bind (rel1.ext es0 hr0) w1 fun ρ2 H2 y eh2 u e2 rel2 v2 h2 => ?_
      split at h2
      · rename_i ys hys
        obtain ⟨b, vs, rfl, j1, j2⟩ := items_of rel2.hr v2 hys
        refine ⟨b, vs, rfl, j1, e2.rest _ _ upd_same (fun _ z => nomatch z) hnq, ρ2, .ref n :: ys, eh2, ?_, rel2.hr, wr_noer h2⟩
        · rw [List.append_nil]
          exact vrs_cons.mpr ⟨.ref a, _, rfl, VR.mono (es0.trans e2) _ _ v1', j2⟩
      · exact h2.elim
    · exact h1.elim
  · exact h1.elim
end
section
variable {X : Cx} {ct : Nat → Addr × List Str} {E : XK} {elt tg iter c : Expr} {scope : Scope} {pos : Pos} {di : DI} {dg : DG} {dt : DT} {de : DE}
theorem xe_lcg (own : List (Str × Nat)) {g : TG} (hc : X.calm = true) (hN : X.N.Nodup) (hi : PId X ct E tg iter di) (he : InBlk X scope fun Y => PEd Y ct E elt de) (hg : InBlk X scope fun Y => PG Y tg g) (hg2 : SndG ⟨X.K, ct⟩ E g dg) (ho : OnlyIn g (own.map (·.2)))
    (ok : blkC X.N X.env.scope scope own = true := by kernel_rfl) (hs : ∀ x, foldedSetIterable iter X.env x = pure x := by intro _; rfl) :
    PEd X ct E (.ListComp elt [⟨tg, iter, [], 0⟩] scope pos) (dLc di dg dYes de (own.map (·.2))) := by
  obtain ⟨wi, i1, i2⟩ := hi
  exact ⟨_, pe_lc (own := own) hc hN i1 (blkOk_by ok) hg (fun _ _ _ _ _ => pts_nil) (fun s H C cl fp => (he s H C cl fp).can) hs, snd_lc i2 hg2 ho snd_yes snd_tE⟩
theorem xe_lcgi (own : List (Str × Nat)) {g : TG} (hc : X.calm = true) (hN : X.N.Nodup) (hi : PId X ct E tg iter di) (ht : InBlk X scope fun Y => PTd Y ct E c dt) (he : InBlk X scope fun Y => PEd Y ct E elt de) (hg : InBlk X scope fun Y => PG Y tg g) (hg2 : SndG ⟨X.K, ct⟩ E g dg) (ho : OnlyIn g (own.map (·.2)))
    (ok : blkC X.N X.env.scope scope own = true := by kernel_rfl) (hs : ∀ x, foldedSetIterable iter X.env x = pure x := by intro _; rfl) :
    PEd X ct E (.ListComp elt [⟨tg, iter, [c], 0⟩] scope pos) (dLc di dg dt de (own.map (·.2))) := by
  obtain ⟨wi, i1, i2⟩ := hi
  exact ⟨_, pe_lc (own := own) hc hN i1 (blkOk_by ok) hg (fun s H C cl fp => pts_one (ht s H C cl fp).can) (fun s H C cl fp => (he s H C cl fp).can) hs, snd_lc i2 hg2 ho snd_tT snd_tE⟩
end
def dNoE : DE := fun _ _ => .no
theorem xe_no {X : Cx} {ct : Nat → Addr × List Str} {E : XK} {e : Expr} : PEd X ct E e dNoE := ⟨fun _ _ _ => False, ⟨fun _ _ _ _ _ _ h => h.elim⟩, fun _ _ _ _ _ _ _ h => h⟩
end EE
set_option Elab.async false
set_option linter.all false
set_option maxRecDepth 100000
set_option maxHeartbeats 1000000
namespace EE
open PySem PySem.Spec PyProof.Rows L2 SrtO Srt
def rSortP (K : Fg) : List V → Hp → VK → Prop := fun vs H Q => ∃ (a : Addr) (bs : List Addr), vs = [V.ref a] ∧ SqL K H a (bs.map V.ref) ∧ (∀ b ∈ bs, ∃ i j : Int, H b = some (.tup [.int i, .int j])) ∧
  ∀ (ys : List Addr) (p : Addr), ys.Perm bs → (ys.map (pairAt H)).Pairwise (fun p q => lexLe p q = true) → H p = none → Q (.ref p) (upd H p (.lst (ys.map V.ref)))
section
variable {X : Cx}
theorem call_sortedP : CallR X (.builtin "sorted") (rSortP X.K) := by
  intro pins s σ H vs us Q I r h
  obtain ⟨a, bs, rfl, hs, hp, q⟩ := h
  obtain ⟨its, rv, hl, hz⟩ := I.list hs
  rw [Vals.ref1 r]
  have ei := refs_at rv
  subst ei
  rw [List.length_map] at hz
  have hpair : ∀ v ∈ bs.map Value.ref, IsPair s.heap v (pv H v).1 (pv H v).2 := fun v hv => by
    obtain ⟨b, hb, rfl⟩ := List.mem_map.mp hv
    obtain ⟨i, j, hHb⟩ := hp b hb
    have epv : pv H (.ref b) = (i, j) := by
      show pairAt H b = (i, j)
      unfold pairAt
      rw [hHb]
    rw [epv]
    obtain ⟨_, its2, r2, o2, ho2, hc2, n2, hd2⟩ := I.hok b _ hHb
    obtain ⟨w1, w2, rfl, k1, k2⟩ := vals2 r2
    obtain ⟨t1, rfl⟩ := k1
    obtain ⟨t2, rfl⟩ := k2
    exact ⟨b, o2, t1, t2, n2, rfl, ho2, hc2, hd2⟩
  refine SrtO.sorted_ord (SrtO.swo_lex fun u => pv H u) hl.isList (by rw [List.length_map]; exact hz) (fun h2 h1 a' e keep => SrtO.pairs_sortableO (by omega) (fun v hv => (hpair v hv).keeps fun b o hb _ => (keep b o hb).2) fun o eo => ?_) fun out h1 h2 => ?_
  · have e' : some o = some (seqObj "list" (bs.map Value.ref).toArray 0) := eo.symm.trans e
    cases e'
    intro c
    exact absurd (Value.type.inj c) (by decide)
  · obtain ⟨ep, he'⟩ := PyProof.Rows.sortedAll_at s.heap (bs.map Value.ref) out.toArray
    obtain ⟨ys, hys⟩ : ∃ ys : List Addr, out = ys.map Value.ref := by
      refine ⟨out.map fun v => match v with | .ref b => b | _ => 0, ?_⟩
      rw [List.map_map]
      refine (List.map_id' out).symm.trans (List.map_congr_left fun v hv => ?_)
      obtain ⟨b, _, rfl⟩ := List.mem_map.mp (h2.perm.mem_iff.mp hv)
      rfl
    have hperm : ys.Perm bs := by
      have h3 := h2.perm
      rw [hys] at h3
      have h4 := h3.map fun v => match v with | .ref b => b | _ => 0
      rw [List.map_map, List.map_map] at h4
      have e3 : ∀ l : List Addr, l.map ((fun v => match v with | Value.ref b => b | _ => 0) ∘ Value.ref) = l := fun l => by
        rw [show ((fun v => match v with | Value.ref b => b | _ => 0) ∘ Value.ref) = id from rfl, List.map_id]
      rw [e3, e3] at h4
      exact h4
    have hsort : (ys.map (pairAt H)).Pairwise (fun p q => lexLe p q = true) := by
      rw [List.pairwise_map]
      have h3 := h1
      rw [hys] at h3
      refine (List.pairwise_map.mp h3).imp fun {x y} hxy => ?_
      have hxy : lexB (pairAt H y) (pairAt H x) = false := hxy
      unfold lexLe
      rw [hxy]
      rfl
    have hlen : (ys.map V.ref).length ≤ sizeLine := by
      rw [List.length_map, hperm.length_eq]
      exact hz
    exact ⟨.ref _, upd H (s.heap.objs.size + 1) (.lst (ys.map V.ref)), I.laid (t' := s.toks) (fun _ _ => PyProof.Rows.sortedAll_old) (Nat.le_succ _) ⟨hlen, out, ep, by rw [hys]; exact vals_refs ys, he'⟩, rfl, q ys _ hperm hsort (I.hok.fresh (Nat.le_succ _))⟩
end
def fSortP : DL := fun xs h => match xs with
  | [.ref n] => match lstAt h n with
    | some ys => match pairsE ys with
      | some l => .ok (.ref h.length) (h ++ [.lst ((psort l).map pairE)])
      | none => .no
    | none => .no
  | _ => .no
theorem pairs_refs {K : Fg} {ρ : Rho} {H : Hp} : ∀ {l : List (Int × Int)} {vs : List V}, VRs K ρ H (l.map pairE) vs → ∃ bs : List Addr, vs = bs.map V.ref ∧ bs.map (pairAt H) = l ∧ (∀ b ∈ bs, ∃ i j : Int, H b = some (.tup [.int i, .int j])) ∧ ∀ b ∈ bs, VR K ρ H (pairE (pairAt H b)) (.ref b)
  | [], vs, h => by
    rw [vrs_nil.mp h]
    exact ⟨[], rfl, rfl, fun b hb => absurd hb (by simp), fun b hb => absurd hb (by simp)⟩
  | p :: l, vs, h => by
    obtain ⟨v, r, rfl, h1, h2⟩ := vrs_cons.mp h
    obtain ⟨bs, rfl, k1, k2, k3⟩ := pairs_refs h2
    have h1' := h1
    obtain ⟨a, ws, rfl, hb, hw⟩ := vr_tup.mp h1
    obtain ⟨w1, w2, rfl, q1, q2⟩ := vrs_two hw
    rw [vr_int.mp q1, vr_int.mp q2] at hb
    have e : pairAt H a = p := by
      unfold pairAt
      rw [hb]
    refine ⟨a :: bs, rfl, by rw [List.map_cons, k1, e], fun b hb' => ?_, fun b hb' => ?_⟩
    · rcases List.mem_cons.mp hb' with z | z
      · subst z
        exact ⟨_, _, hb⟩
      · exact k2 b z
    · rcases List.mem_cons.mp hb' with z | z
      · subst z
        rw [e]
        exact h1'
      · exact k3 b z
section
variable {X : Cx} {ct : Nat → Addr × List Str} {E : XK} {G : Gx}
theorem c_sortP : Cld X ct E (.builtin "sorted") fSortP := ⟨_, call_sortedP, fun ρ H eh xs as Q hr hx h => by
  unfold fSortP at h
  split at h
  · rename_i n
    split at h
    · rename_i ys e1
      split at h
      · rename_i l e2
        obtain ⟨v, rfl, hv⟩ := vrs_one hx
        obtain ⟨a, vs, g1, g2, g3⟩ := lst_of hr e1
        obtain ⟨a', q1, rfl⟩ := vr_ref.mp hv
        rw [g1] at q1; cases q1
        rw [pairsE_eq e2] at g3
        obtain ⟨bs, rfl, k1, k2, k3⟩ := pairs_refs g3
        refine ⟨a, bs, rfl, g2, k2, fun zs p hp hs hn => ?_⟩
        have e3 : zs.map (pairAt H) = psort l := by
          refine psort_eq ?_ hs
          rw [← k1]
          exact hp.map _
        have hv := vrs_pairs (K := X.K) (ρ := ρ) fun b hb => k3 b (hp.mem_iff.mp hb)
        rw [e3] at hv
        exact new_lst hr hv h p hn
      · exact h.elim
    · exact h.elim
  · exact h.elim⟩
end
end EE
set_option Elab.async false
set_option linter.all false
set_option maxRecDepth 100000
set_option maxHeartbeats 1000000
namespace EE
open PySem PySem.Spec PyProof.Rows L2
def mExt : EV → DL := fun x xs h => match x, xs with
  | .ref n, [.ref m] => match mutAt h n, mutAt h m with
    | some ys, some zs => if ys.length + zs.length ≤ 100000 then .ok .non (h.set n (.lst (ys ++ zs))) else .no
    | _, _ => .no
  | _, _ => .no
def mClr : EV → DL := fun x xs h => match x, xs with
  | .ref n, [] => match mutAt h n with
    | some _ => .ok .non (h.set n (.lst []))
    | none => .no
  | _, _ => .no
def mRev : EV → DL := fun x xs h => match x, xs with
  | .ref n, [] => match mutAt h n with
    | some ys => .ok .non (h.set n (.lst ys.reverse))
    | none => .no
  | _, _ => .no
def dBM0 (f : EV → DL) (o : DE) : DE := fun es h => (o es h).bind fun x h1 => match x with
  | .ref n => match lstAt h1 n with
    | some _ => f x [] h1
    | none => .no
  | _ => .no
def fMax2 : DL := fun xs h => match xs with
  | [.int i, .int j] => .ok (.int (if j > i then j else i)) h
  | _ => .no
def fMin2 : DL := fun xs h => match xs with
  | [.int i, .int j] => .ok (.int (if j < i then j else i)) h
  | _ => .no
def fMaxL : DL := fun xs h => match xs with
  | [.ref n] => match lstAt h n with
    | some ys => match intsE ys with
      | some (i :: l) => .ok (.int (l.foldl max i)) h
      | _ => .no
    | none => .no
  | _ => .no
def fInt1 : DL := fun xs h => match xs with
  | [.int i] => .ok (.int i) h
  | [.bl b] => .ok (.int (if b then 1 else 0)) h
  | _ => .no
theorem VRs.rev {K : Fg} {ρ : Rho} {H : Hp} : ∀ {xs : List EV} {vs : List V}, VRs K ρ H xs vs → VRs K ρ H xs.reverse vs.reverse
  | [], vs, h => by rw [vrs_nil.mp h]; exact vrs_nil.mpr rfl
  | x :: xs, vs, h => by
    obtain ⟨v, r, rfl, h1, h2⟩ := vrs_cons.mp h
    rw [List.reverse_cons, List.reverse_cons]
    exact h2.rev.append (VRs.one h1)
theorem max_is : ∀ (l : List Int) (i : Int), (l.foldl max i) ∈ i :: l ∧ ∀ y ∈ i :: l, y ≤ l.foldl max i
  | [], i => ⟨by simp, fun y hy => by simp at hy; subst hy; exact Int.le_refl _⟩
  | x :: l, i => by
    have ih := max_is l (max i x)
    rw [List.foldl_cons]
    refine ⟨?_, fun y hy => ?_⟩
    · rcases List.mem_cons.mp ih.1 with z | z
      · rw [z]
        rcases Int.le_total i x with q | q
        · rw [Int.max_eq_right q]; simp
        · rw [Int.max_eq_left q]; simp
      · exact List.mem_cons_of_mem _ (List.mem_cons_of_mem _ z)
    · have h0 := ih.2 (max i x) List.mem_cons_self
      rcases List.mem_cons.mp hy with z | z
      · subst z
        exact Int.le_trans (Int.le_max_left _ _) h0
      · rcases List.mem_cons.mp z with z | z
        · subst z
          exact Int.le_trans (Int.le_max_right _ _) h0
        · exact ih.2 y (List.mem_cons_of_mem _ z)
section
variable {X : Cx} {ct : Nat → Addr × List Str} {E : XK} {G : Gx}
theorem m_ext : Mtd X ct E "list.extend" mExt := ⟨_, mt_extend, fun ρ H eh x a xs as Q hr hx hxs h => by
  unfold mExt at h
  split at h
  · rename_i n m
    split at h
    · rename_i ys zs e1 e2
      split at h
      · rename_i hl
        obtain ⟨a1, vs, g1, g2, g3, g4⟩ := mut_of hr e1
        obtain ⟨a2, us, k1, k2, k3, _⟩ := mut_of hr e2
        obtain ⟨a', q1, rfl⟩ := vr_ref.mp hx
        rw [g1] at q1; cases q1
        obtain ⟨v, rfl, hv⟩ := vrs_one hxs
        obtain ⟨b', q2, rfl⟩ := vr_ref.mp hv
        rw [k1] at q2; cases q2
        obtain ⟨e, hr'⟩ := put_lst hr g4 g2 (g3.append k3)
        exact ⟨a1, a2, vs, us, rfl, rfl, g2, k2, by rw [← g3.length, ← k3.length]; exact sz5 hl, h ρ _ _ e hr' (vr_non.mpr rfl)⟩
      · exact h.elim
    · exact h.elim
  · exact h.elim⟩
theorem m_clr : Mtd X ct E "list.clear" mClr := ⟨_, mt_clear, fun ρ H eh x a xs as Q hr hx hxs h => by
  unfold mClr at h
  split at h
  · rename_i n
    split at h
    · rename_i ys e1
      obtain ⟨a1, vs, g1, g2, g3, g4⟩ := mut_of hr e1
      obtain ⟨a', q1, rfl⟩ := vr_ref.mp hx
      rw [g1] at q1; cases q1
      obtain ⟨e, hr'⟩ := put_lst hr g4 g2 (vrs_nil.mpr rfl : VRs X.K ρ H [] [])
      exact ⟨a1, vs, rfl, vrs_nil.mp hxs, g2, h ρ _ _ e hr' (vr_non.mpr rfl)⟩
    · exact h.elim
  · exact h.elim⟩
theorem m_rev : Mtd X ct E "list.reverse" mRev := ⟨_, mt_reverse, fun ρ H eh x a xs as Q hr hx hxs h => by
  unfold mRev at h
  split at h
  · rename_i n
    split at h
    · rename_i ys e1
      obtain ⟨a1, vs, g1, g2, g3, g4⟩ := mut_of hr e1
      obtain ⟨a', q1, rfl⟩ := vr_ref.mp hx
      rw [g1] at q1; cases q1
      obtain ⟨e, hr'⟩ := put_lst hr g4 g2 g3.rev
      exact ⟨a1, vs, rfl, vrs_nil.mp hxs, g2, h ρ _ _ e hr' (vr_non.mpr rfl)⟩
    · exact h.elim
  · exact h.elim⟩
theorem c_max2 (hc : X.calm = true) : Cld X ct E (.builtin "max") fMax2 := ⟨_, call_max2 hc, fun ρ H eh xs as Q hr hx h => by
  unfold fMax2 at h
  split at h
  · rename_i i j
    obtain ⟨v, w, rfl, hv, hw⟩ := vrs_two hx
    rw [vr_int.mp hv, vr_int.mp hw]
    exact ⟨i, j, rfl, h ρ H _ (Ext.refl _ _ _) hr (vr_int.mpr rfl)⟩
  · exact h.elim⟩
theorem c_min2 (hc : X.calm = true) : Cld X ct E (.builtin "min") fMin2 := ⟨_, call_min2 hc, fun ρ H eh xs as Q hr hx h => by
  unfold fMin2 at h
  split at h
  · rename_i i j
    obtain ⟨v, w, rfl, hv, hw⟩ := vrs_two hx
    rw [vr_int.mp hv, vr_int.mp hw]
    exact ⟨i, j, rfl, h ρ H _ (Ext.refl _ _ _) hr (vr_int.mpr rfl)⟩
  · exact h.elim⟩
theorem c_maxL (hc : X.calm = true) : Cld X ct E (.builtin "max") fMaxL := ⟨_, cr_max hc, fun ρ H eh xs as Q hr hx h => by
  unfold fMaxL at h
  split at h
  · rename_i n
    split at h
    · rename_i ys e1
      split at h
      · rename_i i l e2
        obtain ⟨v, rfl, hv⟩ := vrs_one hx
        obtain ⟨a, vs, g1, g2, g3⟩ := lst_of hr e1
        obtain ⟨a', q1, rfl⟩ := vr_ref.mp hv
        rw [g1] at q1; cases q1
        rw [intsE_eq e2] at g3
        rw [VRs.of_ints g3] at g2
        refine ⟨a, i :: l, rfl, g2, by simp, fun m hm hy => ?_⟩
        have k := max_is l i
        have : m = l.foldl max i := Int.le_antisymm (k.2 m hm) (hy _ k.1)
        rw [this]
        exact h ρ H _ (Ext.refl _ _ _) hr (vr_int.mpr rfl)
      · exact h.elim
    · exact h.elim
  · exact h.elim⟩
theorem c_int1 : Cld X ct E (.type "int") fInt1 := ⟨_, call_int1, fun ρ H eh xs as Q hr hx h => by
  unfold fInt1 at h
  split at h
  · rename_i i
    obtain ⟨v, rfl, hv⟩ := vrs_one hx
    rw [vr_int.mp hv]
    exact .inl ⟨i, rfl, h ρ H _ (Ext.refl _ _ _) hr (vr_int.mpr rfl)⟩
  · rename_i b
    obtain ⟨v, rfl, hv⟩ := vrs_one hx
    rw [vr_bl.mp hv]
    exact .inr ⟨b, rfl, h ρ H _ (Ext.refl _ _ _) hr (vr_int.mpr rfl)⟩
  · exact h.elim⟩
abbrev fMax : DL := dLor fMax2 fMaxL
theorem c_max (hc : X.calm = true) : Cld X ct E (.builtin "max") fMax := (c_max2 hc).or (c_maxL hc)
variable {a e : Expr} {da : DE} {dr : DA}
theorem xe_extend {apos cpos : Pos} (ho : PEd X ct E a da) (ha : PAd X ct E [e] dr)
    (hbase : attributeBase a "extend" X.env (eval a X.env) = eval a X.env := by rfl)
    (hfew : ((backTo cpos (starEach [e] X.env)).all (fun x => !x.1) && (backToKw cpos (keywordEach [] X.env)).all (fun x => x.1.isSome)
      && decide ([e].length + ([] : List Keyword).length + (if ([] : List Keyword).isEmpty then 0 else 1) < 30)) = true := by rfl)
    (hline : (apos.endLine == cpos.line) = true := by rfl) (hs : starEach [e] X.env = (false, eval e X.env) :: starEach [] X.env := by rfl) (hplain : (backTo cpos (starEach [] X.env)).any (·.1) = false := by rfl) :
    PEd X ct E (.Call (.Attribute a "extend" apos) [e] [] cpos) (dBM mExt da dr) := xe_bmL PySem.F.plainAttrs_list PySem.F.slot_list_extend PySem.F.type_list_extend m_ext ho ha hbase hfew hline hs hplain
theorem snd_bm0L {r : V → List V → Hp → VK → Prop} {f : EV → DL} {to : TE} {o : DE} (hr : SndM G E r f) (ho : SndE G E to o) : SndE G E (tBM0 G.K "list" r to) (dBM0 f o) := fun ρ σ H es eh Q rel h => by
  refine ho.bind rel h fun ρ1 H1 x eh1 u e1 rel1 v1 h1 => ?_
  cases x with
  | ref n =>
    simp only at h1
    split at h1
    · rename_i ys e2
      obtain ⟨a1, vs, g1, g2, g3⟩ := lst_of rel1.hr e2
      obtain ⟨a', q1, rfl⟩ := vr_ref.mp v1
      rw [g1] at q1; cases q1
      exact ⟨.inl ⟨rfl, vs, g2⟩, hr ρ1 H1 eh1 _ _ [] [] Q rel1.hr v1 (vrs_nil.mpr rfl) h1⟩
    · exact h1.elim
  | _ => exact h1.elim
theorem xe_clear {apos cpos : Pos} (ho : PEd X ct E a da) (hbase : attributeBase a "clear" X.env (eval a X.env) = eval a X.env := by rfl) (hline : (apos.endLine == cpos.line) = true := by rfl) : PEd X ct E (.Call (.Attribute a "clear" apos) [] [] cpos) (dBM0 mClr da) := by
  obtain ⟨r, m1, m2⟩ := m_clr (X := X) (ct := ct) (E := E)
  obtain ⟨t, a1, a2⟩ := ho
  exact ⟨_, pe_bm0 PySem.F.plainAttrs_list PySem.F.slot_list_clear PySem.F.type_list_clear m1 a1 hbase hline, snd_bm0L m2 a2⟩
end
end EE
set_option Elab.async false
set_option linter.all false
set_option maxRecDepth 100000
set_option maxHeartbeats 1000000
namespace EE
open PySem PySem.Spec PyProof.Rows L2
theorem Res.bind_bind {α β γ : Type} (r : Res α) (f : α → EH → Res β) (k : β → EH → Res γ) : (r.bind f).bind k = r.bind fun v h => (f v h).bind k := by cases r <;> rfl
def dPairs : List (DE × DE) → ES → EH → Res (List (EV × EV))
  | [], _, h => .ok [] h
  | p :: r, es, h => (p.1 es h).bind fun x h1 => (p.2 es h1).bind fun y h2 => (dPairs r es h2).bind fun ps h3 => .ok ((x, y) :: ps) h3
def dfoldK : List (EV × EV) → List (EV × EV) → Option (List (EV × EV))
  | acc, [] => some acc
  | acc, p :: r => match dputE false acc p.1 p.2 with
    | some acc' => dfoldK acc' r
    | none => none
def dDisp (ds : List (DE × DE)) : DE := fun es h => (dPairs ds es h).bind fun ps h1 => if ps.length ≤ 15 then match dfoldK [] ps with
  | some kvs => .ok (.ref h1.length) (h1 ++ [.dic false kvs])
  | none => .no else .no
inductive SndPs (G : Gx) (E : XK) : List (TE × TE) → List (DE × DE) → Prop where
  | nil : SndPs G E [] []
  | cons {tk tv : TE} {dk dv : DE} {trs : List (TE × TE)} {ds : List (DE × DE)} (hk : SndE G E tk dk) (hv : SndE G E tv dv) (r : SndPs G E trs ds) : SndPs G E ((tk, tv) :: trs) ((dk, dv) :: ds)
def PR2 (K : Fg) (ρ : Rho) (H : Hp) : List (EV × EV) → List (V × V) → Prop := Paired fun p q => VR K ρ H p.1 q.1 ∧ VR K ρ H p.2 q.2
theorem SndPs.bind0 {G : Gx} {E : XK} {trs : List (TE × TE)} {ds : List (DE × DE)} (h : SndPs G E trs ds) : ∀ {ρ0 ρ : Rho} {σ : L2.St} {H0 H : Hp} {es : ES} {eh : EH} {γ δ : Type} {R2 : Rho → Hp → γ → δ → Prop} {k : List (EV × EV) → EH → Res γ} {Q2 : δ → Hp → Prop} {Kt : List (V × V) → Hp → Prop}, Rel G ρ σ H es eh → Ext G.K ρ0 ρ H0 H →
    wr G R2 ρ0 H0 ((dPairs ds es eh).bind k) Q2 E → (∀ ρ1 H1 ps eh1 us, Ext G.K ρ ρ1 H H1 → Rel G ρ1 σ H1 es eh1 → PR2 G.K ρ1 H1 ps us → wr G R2 ρ0 H0 (k ps eh1) Q2 E → Kt us H1) → tPairs trs σ H Kt := by
  induction h with
  | nil =>
    intro ρ0 ρ σ H0 H es eh γ δ R2 k Q2 Kt rel e0 hw hk
    exact hk ρ H [] eh [] (Ext.refl _ _ _) rel .nil hw
  | cons hk hv r ih =>
    intro ρ0 ρ σ H0 H es eh γ δ R2 k Q2 Kt rel e0 hw hkt
    simp only [dPairs, Res.bind_bind] at hw
    refine hk.bind0 rel e0 hw fun ρ1 H1 x eh1 u e1 rel1 v1 h1 => ?_
    refine hv.bind0 rel1 (e0.trans e1) h1 fun ρ2 H2 y eh2 w e2 rel2 v2 h2 => ?_
    refine ih rel2 ((e0.trans e1).trans e2) h2 fun ρ3 H3 ps eh3 us e3 rel3 v3 h3 => ?_
    exact hkt ρ3 H3 _ eh3 _ ((e1.trans e2).trans e3) rel3 (.cons ⟨(v1.mono e2).mono e3, v2.mono e3⟩ v3) h3
theorem dfoldK_ok {K : Fg} {ρ : Rho} {H : Hp} : ∀ {ps : List (EV × EV)} {us : List (V × V)} {acc out : List (EV × EV)} {la : List (Key × V)}, PR2 K ρ H ps us → KR keyOf (VR K ρ H) acc la → dfoldK acc ps = some out →
    ∃ kvs : List (Key × V), us = kvs.map (fun kv => (kV kv.1, kv.2)) ∧ KR keyOf (VR K ρ H) out (mergeK la kvs)
  | [], us, acc, out, la, hp, hk, h => by
    cases hp
    cases h
    exact ⟨[], rfl, hk⟩
  | p :: ps, us, acc, out, la, hp, hk, h => by
    cases hp with
    | cons hab hr =>
      rename_i b us'
      unfold dfoldK at h
      split at h
      · rename_i acc' e1
        obtain ⟨kk, e2, e3⟩ := Option.map_eq_some_iff.mp e1
        subst e3
        obtain ⟨kvs, q1, q2⟩ := dfoldK_ok hr (hk.put e2 hab.2) h
        refine ⟨(kk, b.2) :: kvs, ?_, q2⟩
        rw [List.map_cons, ← q1, ← keyOf_eq e2 hab.1]
      · cases h
section
variable {X : Cx} {ct : Nat → Addr × List Str} {E : XK} {pos : Pos}
def PPd (X : Cx) (ct : Nat → Addr × List Str) (E : XK) (pos : Pos) (keys : List (Option Expr)) (values : List Expr) (ds : List (DE × DE)) : Prop := ∃ trs, PPs X pos keys values trs ∧ SndPs ⟨X.K, ct⟩ E trs ds
theorem xp_nil : PPd X ct E pos [] [] [] := ⟨_, pps_nil, .nil⟩
theorem xp_cons {k v : Expr} {ks : List (Option Expr)} {vs : List Expr} {dk dv : DE} {ds : List (DE × DE)} (hk : PEd X ct E k dk) (hv : PEd X ct E v dv) (hr : PPd X ct E pos ks vs ds) : PPd X ct E pos (some k :: ks) (v :: vs) ((dk, dv) :: ds) := by
  obtain ⟨t, a1, a2⟩ := hk
  obtain ⟨u, b1, b2⟩ := hv
  obtain ⟨trs, c1, c2⟩ := hr
  exact ⟨_, pps_cons a1 b1 c1, .cons a2 b2 c2⟩
theorem paired_len {α β : Type} {F : α → β → Prop} {l : List α} {m : List β} (h : Paired F l m) : l.length = m.length := Paired.length h
theorem xe_disp {keys : List (Option Expr)} {values : List Expr} {ds : List (DE × DE)} (h : PPd X ct E pos keys values ds) (hall : keys.all (·.isSome) = true := by rfl) (hl : keys.length = values.length := by rfl) (h0 : keys ≠ [] := by decide) (h15 : keys.length ≤ 15 := by decide) :
    PEd X ct E (.Dict keys values pos) (dDisp ds) := by
  obtain ⟨trs, h1, h2⟩ := h
  refine ⟨_, pe_disp h1 hall hl h0 h15, fun ρ σ H es eh Q rel hw => fun p hp => ?_⟩
  have es0 : Ext X.K ρ ρ H (upd H p (.dK [])) := Ext.side _ hp
  have hr0 := rel.hr.side (HO.dK []) hp
  have hnp := rel.hr.fresh hp
  refine h2.bind0 (rel.ext es0 hr0) es0 hw fun ρ1 H1 ps eh1 us e1 rel1 v1 h3 => ?_
  have hD : H1 p = some (.dK []) := e1.rest _ _ upd_same (fun _ z => nomatch z) hnp
  have hn1 : (true, p) ∉ ρ1 := fun hm => by
    rcases e1.new _ hm with z | z
    · exact hnp z
    · obtain ⟨ps, q⟩ := z _ upd_same; cases q
  split at h3
  · rename_i hlen
    split at h3
    · rename_i kvs e2
      obtain ⟨l, q1, q2⟩ := dfoldK_ok (acc := []) (la := []) v1 rfl e2
      refine ⟨hD, l, q1, ?_, ?_⟩
      · have := paired_len v1
        rw [q1, List.length_map] at this
        omega
      · have eb : Ext0 X.K ρ1 ρ1 H1 (upd H1 p (.dK (mergeK [] l))) := ext0_upd2 hD (fun _ z => by cases z) (fun _ _ z => by cases z) pln_dK
        have hr2 : HR ⟨X.K, ct⟩ ρ1 (upd H1 p (.dK (mergeK [] l))) eh1 := rel1.hr.ext eb (fun a ha => upd_ne fun z => hn1 (z ▸ ha)) (tabs_upd rel1.hr.tab fun v hv => by rw [hD] at hv; cases hv; exact pln_dK)
        have et : Ext X.K ρ ρ1 H (upd H1 p (.dK (mergeK [] l))) := (es0.trans e1).mut hp
        have ep : Ext X.K ρ (ρ1 ++ [(true, p)]) H (upd H1 p (.dK (mergeK [] l))) := et.push hp
        have e0 : Ext0 X.K ρ1 (ρ1 ++ [(true, p)]) H1 (upd H1 p (.dK (mergeK [] l))) := ⟨⟨[(true, p)], rfl⟩, eb.tup, eb.frz, eb.xd⟩
        have hr3 := hr2.push (o := .dic false kvs) hn1 rfl ⟨_, upd_same, _, rfl, q2.mono fun x v => VR.mono0 e0 x v⟩
        exact h3 (ρ1 ++ [(true, p)]) _ _ ep hr3 (vr_ref.mpr ⟨p, last_get rel1.hr.len, rfl⟩)
    · exact h3.elim
  · exact h3.elim
end
def dPar3 (i j l : Nat) (a : DA) : DS := fun es h => (a es h).bind fun xs h1 => match xs with
  | [x, y, z] => .ok (.nx (((es.set i (some x)).set j (some y)).set l (some z))) h1
  | _ => .no
section
variable {X : Cx} {ct : Nat → Addr × List Str} {E : XK} {pos : Pos} {a b c : Expr} {dr : DA}
theorem xs_par3 (i j l : Nat) {x y z : Str} {px py pz pt : Pos} {kt k2 pt2} (hc : X.calm = true) (hN : X.N.Nodup) (ha : PAd X ct E [a, b, c] dr) (hw : swappedStores [.Tuple [.Name x px, .Name y py, .Name z pz] kt pt] (.Tuple [a, b, c] k2 pt2) X.env = pure (some [x, y, z]))
    (hi : X.N[i]? = some x := by rfl) (hj : X.N[j]? = some y := by rfl) (hl : X.N[l]? = some z := by rfl) (hij : i ≠ j := by decide) (hil : i ≠ l := by decide) (hjl : j ≠ l := by decide)
    (hx : X.env.scope.names.lookup x = some .local := by rfl) (hy : X.env.scope.names.lookup y = some .local := by rfl) (hz : X.env.scope.names.lookup z = some .local := by rfl)
    (hs : swapsWithSole [.Tuple [.Name x px, .Name y py, .Name z pz] kt pt] (.Tuple [a, b, c] k2 pt2) pos.line X.env = pure false := by rfl) : PSd X ct E (.Assign [.Tuple [.Name x px, .Name y py, .Name z pz] kt pt] (.Tuple [a, b, c] k2 pt2) pos) (dPar3 i j l dr) := by
  obtain ⟨t, a1, a2⟩ := ha
  refine ⟨_, ps_par3 hc hN hi hj hl hij hil hjl hx hy hz a1 hw hs, fun ρ σ H es eh D rel h => ?_⟩
  refine a2.bind rel h fun ρ1 H1 xs eh1 u e1 rel1 v1 h1 => ?_
  split at h1
  · rename_i x y z
    obtain ⟨u1, r1, rfl, q1, v2⟩ := vrs_cons.mp v1
    obtain ⟨u2, u3, rfl, q2, q3⟩ := vrs_two v2
    exact ⟨u1, u2, u3, rfl, h1 ρ1 H1 (.nx _) (Ext.refl _ _ _) rel1.hr (((rel1.sl.set i q1).set j q2).set l q3)⟩
  · exact h1.elim
end
end EE
set_option Elab.async false
set_option linter.all false
set_option maxRecDepth 100000
set_option maxHeartbeats 1000000
namespace EE
open PySem PySem.Spec PyProof.Rows L2
@[irreducible] def whN : Nat := 1000000000
def whGo (t : DT) (b : DS) : Nat → DS
  | 0, _, _ => .no
  | m + 1, es, h => (t es h).bind fun c h1 => if c = true then (b es h1).bind fun f h2 => match f with
      | .nx es2 => whGo t b m es2 h2
      | .ct es2 => whGo t b m es2 h2
      | .bk es2 => .ok (.nx es2) h2
      | .rt v => .ok (.rt v) h2
    else .ok (.nx es) h1
def dWhile (t : DT) (b : DS) : DS := fun es h => whGo t b whN es h
section
variable {X : Cx} {ct : Nat → Addr × List Str} {E : XK} {G : Gx}
theorem snd_while {tt : TT} {tb : TS} {t : DT} {b : DS} (ht : SndT G E tt t) (hb : SndS G E tb b) : SndS G E (tWhile tt tb) (dWhile t b) := fun ρ σ H es eh D rel h => by
  refine ⟨fun m σ' H' => ∃ ρ' es' eh', Ext G.K ρ ρ' H H' ∧ Rel G ρ' σ' H' es' eh' ∧ wr G (RF G) ρ' H' (whGo t b m es' eh') (qD D) E, ⟨whN, ρ, es, eh, Ext.refl _ _ _, rel, h⟩, ?_⟩
  rintro m σ' H' ⟨ρ', es', eh', e', rel', hw⟩
  cases m with
  | zero => exact hw.elim
  | succ m =>
    unfold whGo at hw
    refine ht.bind rel' hw fun ρ1 H1 c eh1 cv e1 rel1 v1 h1 => ?_
    subst v1
    cases c with
    | false => exact iteF (h1 ρ1 H1 (.nx σ') (Ext.refl _ _ _) rel1.hr rel1.sl)
    | true =>
      refine iteT ⟨fun σ2 H2 => ∃ ρ2 es2 eh2, Ext G.K ρ ρ2 H H2 ∧ Rel G ρ2 σ2 H2 es2 eh2 ∧ wr G (RF G) ρ2 H2 (whGo t b m es2 eh2) (qD D) E, fun σ2 H2 q => ⟨m, Nat.lt_succ_self m, q⟩, ?_⟩
      simp only [if_true] at h1
      refine hb.bind rel1 h1 fun ρ5 H5 f eh5 vf e5 hr5 rf h5 => ?_
      have et := (e'.trans e1).trans e5
      cases f with
      | nx es5 =>
        cases vf with
        | nx σ5 => exact ⟨ρ5, es5, eh5, et, ⟨rf, hr5⟩, h5⟩
        | _ => exact rf.elim
      | ct es5 =>
        cases vf with
        | ct σ5 => exact ⟨ρ5, es5, eh5, et, ⟨rf, hr5⟩, h5⟩
        | _ => exact rf.elim
      | bk es5 =>
        cases vf with
        | bk σ5 => exact h5 ρ5 H5 (.nx σ5) (Ext.refl _ _ _) hr5 rf
        | _ => exact rf.elim
      | rt v5 =>
        cases vf with
        | rt u5 => exact h5 ρ5 H5 (.rt u5) (Ext.refl _ _ _) hr5 rf
        | _ => exact rf.elim
theorem xs_while (hp : PassesOwn (model X.prog X.w) X.A X.env X.xe) {c : Expr} {body : List Stmt} {pos : Pos} {dt : DT} {ds : DS} (hc : PTd X ct E c dt) (hb : PSsd X ct E body ds) : PSd X ct E (.While c body [] pos) (dWhile dt ds) := by
  obtain ⟨tc, a1, a2⟩ := hc
  obtain ⟨tb, b1, b2⟩ := hb
  exact ⟨_, ps_while hp a1 b1, snd_while a2 b2⟩
def mPopI : EV → DL := fun x xs h => match x, xs with
  | .ref n, [.int i] => match mutAt h n with
    | some ys => if decide (0 ≤ i) && decide (i < 100000) = true then match ys[i.toNat]? with
        | some y => .ok y (h.set n (.lst (ys.eraseIdx i.toNat)))
        | none => .no
      else .no
    | none => .no
  | _, _ => .no
theorem VRs.erase {K : Fg} {ρ : Rho} {H : Hp} : ∀ {xs : List EV} {vs : List V} (i : Nat), VRs K ρ H xs vs → VRs K ρ H (xs.eraseIdx i) (vs.eraseIdx i)
  | [], vs, i, h => by rw [vrs_nil] at h; subst h; exact vrs_nil.mpr rfl
  | y :: xs, vs, i, h => by
    obtain ⟨u, r, rfl, h1, h2⟩ := vrs_cons.mp h
    cases i with
    | zero => exact h2
    | succ i => exact vrs_cons.mpr ⟨u, r.eraseIdx i, rfl, h1, VRs.erase i h2⟩
theorem m_popI : Mtd X ct E "list.pop" mPopI := ⟨_, mt_popAt, fun ρ H eh x a xs as Q hr hx hxs h => by
  unfold mPopI at h
  split at h
  · rename_i n i
    split at h
    · rename_i ys e1
      split at h
      · rename_i hi
        simp only [Bool.and_eq_true, decide_eq_true_eq] at hi
        split at h
        · rename_i y e2
          obtain ⟨a1, vs, g1, g2, g3, g4⟩ := mut_of hr e1
          obtain ⟨a', q1, rfl⟩ := vr_ref.mp hx
          rw [g1] at q1; cases q1
          obtain ⟨v, rfl, hv⟩ := vrs_one hxs
          rw [vr_int.mp hv]
          obtain ⟨w, w1, w2⟩ := g3.get e2
          have hlt := (List.getElem?_eq_some_iff.mp w1).1
          obtain ⟨e, hr'⟩ := put_lst hr g4 g2 (g3.erase i.toNat)
          refine ⟨a1, vs, i, i.toNat, w, rfl, rfl, g2, by omega, by omega, ?_, w1, h ρ _ _ e hr' (VR.mono e _ _ w2)⟩
          have h0 : ¬ i < 0 := by omega
          have h9 : i < (vs.length : Int) := by omega
          simp [seqIndex?, h0, hi.1, h9]
        · exact h.elim
      · exact h.elim
    · exact h.elim
  · exact h.elim⟩
variable {a e e' : Expr} {da : DE} {dr : DA}
theorem xe_popI {apos cpos : Pos} (ho : PEd X ct E a da) (ha : PAd X ct E [e] dr)
    (hbase : attributeBase a "pop" X.env (eval a X.env) = eval a X.env := by rfl)
    (hfew : ((backTo cpos (starEach [e] X.env)).all (fun x => !x.1) && (backToKw cpos (keywordEach [] X.env)).all (fun x => x.1.isSome)
      && decide ([e].length + ([] : List Keyword).length + (if ([] : List Keyword).isEmpty then 0 else 1) < 30)) = true := by rfl)
    (hline : (apos.endLine == cpos.line) = true := by rfl) (hs : starEach [e] X.env = (false, eval e X.env) :: starEach [] X.env := by rfl) (hplain : (backTo cpos (starEach [] X.env)).any (·.1) = false := by rfl) :
    PEd X ct E (.Call (.Attribute a "pop" apos) [e] [] cpos) (dBM mPopI da dr) := xe_bmL PySem.F.plainAttrs_list PySem.F.slot_list_pop PySem.F.type_list_pop m_popI ho ha hbase hfew hline hs hplain
def rPopK : V → List V → Hp → VK → Prop := fun x xs H Q => ∃ (a : Addr) (kvs : List (Key × V)) (k : Key) (d : V), x = .ref a ∧ xs = [kV k, d] ∧ H a = some (.dK kvs) ∧ (∀ v, valV kvs k = some v → Q v (upd H a (.dK (dropK kvs k)))) ∧ (valV kvs k = none → Q d H)
theorem mt_popK : MtR X "dict.pop" rPopK := by
  intro pins s σ H x xs v us Q I rx rxs h
  obtain ⟨a, kvs, k, d, rfl, rfl, ha, q1, q2⟩ := h
  cases rx
  obtain ⟨u1, u2, rfl, r1, r2⟩ := vals2 rxs
  cases hv : valV kvs k with
  | none => exact d_popD I ha r1 hv fun s' I' => ⟨d, H, I', r2, q2 hv⟩
  | some v0 => exact d_pop I ha r1 hv (.inr ⟨u2, rfl⟩) fun w' s' I' rw' => ⟨v0, _, I', rw', q1 v0 hv⟩
def mPopK : EV → DL := fun x xs h => match x, xs with
  | .ref n, [y, z] => match mdicAt h n, keyOf y with
    | some (false, kvs), some k => match dval keyOf kvs k with
      | some v => .ok v (h.set n (.dic false (ddrop keyOf kvs k)))
      | none => .ok z h
    | _, _ => .no
  | _, _ => .no
theorem m_popK : Mtd X ct E "dict.pop" mPopK := ⟨_, mt_popK, fun ρ H eh x a xs as Q hr hx hxs h => by
  unfold mPopK at h
  split at h
  · rename_i n y z
    split at h
    · rename_i kvs k e1 e2
      obtain ⟨p, u, g1, g2, g3, g4⟩ := mdic_of hr e1
      obtain ⟨l, rfl, hk⟩ := g3
      obtain ⟨p', q1, rfl⟩ := vr_ref.mp hx
      rw [g1] at q1; cases q1
      obtain ⟨v, w, rfl, hv, hw⟩ := vrs_two hxs
      have hkv := keyOf_eq e2 hv
      subst hkv
      have hval := hk.val k
      refine ⟨p, l, k, w, rfl, rfl, g2, fun v0 hv0 => ?_, fun hn => ?_⟩
      · rw [hv0] at hval
        split at h
        · rename_i ve e3
          rw [e3] at hval
          obtain ⟨e, hr'⟩ := put_dic (t := false) (kvs := kvs) (kvs' := ddrop keyOf kvs k) (u' := .dK (dropK l k)) hr g4 g2 ⟨l, rfl, hk⟩ ⟨_, rfl, hk.drop k⟩
          exact h ρ _ _ e hr' (VR.mono e _ _ hval)
        · rename_i e3
          rw [e3] at hval
          exact hval.elim
      · rw [hn] at hval
        split at h
        · rename_i ve e3
          rw [e3] at hval
          exact hval.elim
        · exact h ρ _ _ (Ext.refl _ _ _) hr hw
    · exact h.elim
  · exact h.elim⟩
theorem xe_popK {apos cpos : Pos} (ho : PEd X ct E a da) (ha : PAd X ct E [e, e'] dr)
    (hbase : attributeBase a "pop" X.env (eval a X.env) = eval a X.env := by rfl)
    (hfew : ((backTo cpos (starEach [e, e'] X.env)).all (fun x => !x.1) && (backToKw cpos (keywordEach [] X.env)).all (fun x => x.1.isSome)
      && decide ([e, e'].length + ([] : List Keyword).length + (if ([] : List Keyword).isEmpty then 0 else 1) < 30)) = true := by rfl)
    (hline : (apos.endLine == cpos.line) = true := by rfl) (hs : starEach [e, e'] X.env = (false, eval e X.env) :: starEach [e'] X.env := by rfl) (hplain : (backTo cpos (starEach [e'] X.env)).any (·.1) = false := by rfl) :
    PEd X ct E (.Call (.Attribute a "pop" apos) [e, e'] [] cpos) (dBMD mPopK da dr) := by
  obtain ⟨r, m1, m2⟩ := m_popK (X := X) (ct := ct) (E := E)
  obtain ⟨t, a1, a2⟩ := ho
  obtain ⟨u, b1, b2⟩ := ha
  exact ⟨_, pe_bm PySem.F.plainAttrs_dict PySem.F.slot_dict_pop PySem.F.type_dict_pop m1 a1 b1 hbase hfew hline hs hplain, snd_bmD m2 a2 b2⟩
def rUpdK : V → List V → Hp → VK → Prop := fun x xs H Q => ∃ (a b : Addr) (kvs more : List (Key × V)), x = .ref a ∧ xs = [.ref b] ∧ a ≠ b ∧ H a = some (.dK kvs) ∧ H b = some (.dK more) ∧ kvs.length + more.length ≤ sizeLine ∧ Q .non (upd H a (.dK (mergeK kvs more)))
theorem mt_updK : MtR X "dict.update" rUpdK := by
  intro pins s σ H x xs v us Q I rx rxs h
  obtain ⟨a, b, kvs, more, rfl, rfl, hab, ha, hb, hz, q⟩ := h
  cases rx
  obtain ⟨u1, rfl, r1⟩ := vals1 rxs
  cases r1
  obtain ⟨z, hd, vs, rel, dd⟩ := dk_of I.hok ha
  obtain ⟨z2, hd2, rs, rel2, dd2⟩ := dk_of I.hok hb
  refine call_meetsIn PySem.F.slot_dict_update dd.typeIs PySem.F.entry_dict_update (PySem.F.args_dict_update_2 _ _) (meets_dict_update (mixKind X.prog X.w) a b hab hd2) ⟨vs, rs, dd, dd2, by rw [← rel.length, ← rel2.length]; exact hz, fun h' dd' _ hs => ?_⟩
  have he : ∃ q, h'.get? a = some q := let ⟨q, _, _, hq, _⟩ := dd'; ⟨q, hq⟩
  exact ⟨.non, _, d_write I (by rw [ha]; exact True.intro) hs he (dk_new (Nat.le_trans (length_mergeK more kvs) hz) hd (KV.merge rel2 rel) dd'), rfl, q⟩
theorem KR.merge {R : EV → V → Prop} : ∀ {qs : List (EV × EV)} {m : List (Key × V)} {ps out : List (EV × EV)} {l : List (Key × V)}, KR keyOf R qs m → KR keyOf R ps l → dfoldK ps qs = some out → KR keyOf R out (mergeK l m)
  | [], m, ps, out, l, hq, hp, e => by
    cases hq
    simp only [dfoldK, Option.some.injEq] at e
    subst e
    exact hp
  | q :: qs, m, ps, out, l, hq, hp, e => by
    obtain ⟨k, v, r, rfl, h1, h2, h3⟩ := hq
    have e3 : dputE false ps q.1 q.2 = some (dput keyOf ps k q.1 q.2) := by
      have : dputE false ps q.1 q.2 = (keyOf q.1).map fun k => dput keyOf ps k q.1 q.2 := rfl
      rw [this, h1]
      rfl
    unfold dfoldK at e
    rw [e3] at e
    exact KR.merge (l := putK l k v) h3 (KR.put h1 h2 hp) e
def mUpdK : EV → DL := fun x xs h => match x, xs with
  | .ref n, [.ref m] => if n = m then .no else match mdicAt h n, mdicAt h m with
    | some (false, kvs), some (false, more) => if kvs.length + more.length ≤ 100000 then match dfoldK kvs more with
        | some out => .ok .non (h.set n (.dic false out))
        | none => .no
      else .no
    | _, _ => .no
  | _, _ => .no
theorem m_updK : Mtd X ct E "dict.update" mUpdK := ⟨_, mt_updK, fun ρ H eh x a xs as Q hr hx hxs h => by
  unfold mUpdK at h
  split at h
  · rename_i n m
    split at h
    · exact h.elim
    · rename_i hnm
      split at h
      · rename_i kvs more e1 e2
        split at h
        · rename_i hl
          split at h
          · rename_i out e3
            obtain ⟨p, u, g1, g2, g3, g4⟩ := mdic_of hr e1
            obtain ⟨l, rfl, hk⟩ := g3
            obtain ⟨p2, u2, k1, k2, k3, k4⟩ := mdic_of hr e2
            obtain ⟨l2, rfl, hk2⟩ := k3
            obtain ⟨p', q1, rfl⟩ := vr_ref.mp hx
            rw [g1] at q1; cases q1
            obtain ⟨v, rfl, hv⟩ := vrs_one hxs
            obtain ⟨p', q1, rfl⟩ := vr_ref.mp hv
            rw [k1] at q1; cases q1
            obtain ⟨e, hr'⟩ := put_dic (t := false) (kvs := kvs) (kvs' := out) (u' := .dK (mergeK l l2)) hr g4 g2 ⟨l, rfl, hk⟩ ⟨_, rfl, KR.merge hk2 hk e3⟩
            exact ⟨p, p2, l, l2, rfl, rfl, fun z => hnm (hr.dis _ _ _ (z ▸ g4) k4), g2, k2, by rw [← hk.len, ← hk2.len]; exact sz5 hl, h ρ _ _ e hr' (vr_non.mpr rfl)⟩
          · exact h.elim
        · exact h.elim
      · exact h.elim
  · exact h.elim⟩
theorem xe_updK {apos cpos : Pos} (ho : PEd X ct E a da) (ha : PAd X ct E [e] dr)
    (hbase : attributeBase a "update" X.env (eval a X.env) = eval a X.env := by rfl)
    (hfew : ((backTo cpos (starEach [e] X.env)).all (fun x => !x.1) && (backToKw cpos (keywordEach [] X.env)).all (fun x => x.1.isSome)
      && decide ([e].length + ([] : List Keyword).length + (if ([] : List Keyword).isEmpty then 0 else 1) < 30)) = true := by rfl)
    (hline : (apos.endLine == cpos.line) = true := by rfl) (hs : starEach [e] X.env = (false, eval e X.env) :: starEach [] X.env := by rfl) (hplain : (backTo cpos (starEach [] X.env)).any (·.1) = false := by rfl) :
    PEd X ct E (.Call (.Attribute a "update" apos) [e] [] cpos) (dBMD mUpdK da dr) := by
  obtain ⟨r, m1, m2⟩ := m_updK (X := X) (ct := ct) (E := E)
  obtain ⟨t, a1, a2⟩ := ho
  obtain ⟨u, b1, b2⟩ := ha
  exact ⟨_, pe_bm PySem.F.plainAttrs_dict PySem.F.slot_dict_update PySem.F.type_dict_update m1 a1 b1 hbase hfew hline hs hplain, snd_bmD m2 a2 b2⟩
end
end EE
set_option Elab.async false
set_option linter.all false
set_option maxRecDepth 100000
set_option maxHeartbeats 4000000
namespace TT
open PySem PySem.Spec PyProof.Rows L2
def Rnd (m : Nat) : Prop := m % 2 = 1 ∧ ∀ i j, i ≤ m → j ≤ m → ∃ k, k ≤ m ∧ lcgI m i k = j
theorem rnd_old {m : Nat} (h : MaskOk m) : Rnd m := ⟨mask_odd h, fun _ _ hi hj => lcgI_all h hi hj⟩
def trip : Nat → Nat → List Nat
  | 0, _ => []
  | n + 1, x => x :: trip n ((x * 5 + 1) % 512)
theorem trip_at : ∀ (n x k : Nat), k < n → (trip n x)[k]? = some (lcgI 511 x k) := by
  have back : ∀ (k x : Nat), lcgI 511 ((x * 5 + 1) % 512) k = lcgI 511 x (k + 1) := fun k x => by
    induction k with
    | zero => rfl
    | succ k ih =>
      show (lcgI 511 ((x * 5 + 1) % 512) k * 5 + 1) % 512 = (lcgI 511 x (k + 1) * 5 + 1) % 512
      rw [ih]
  intro n
  induction n with
  | zero => intro x k hk; omega
  | succ n ih =>
    intro x k hk
    cases k with
    | zero => rfl
    | succ k =>
      show (trip n ((x * 5 + 1) % 512))[k]? = _
      rw [ih _ _ (by omega), back]
theorem trip_len : ∀ (n x : Nat), (trip n x).length = n
  | 0, _ => rfl
  | n + 1, x => by
    show (trip n _).length + 1 = n + 1
    rw [trip_len n]
theorem trip_whole : ((List.range 512).all fun j => (trip 512 0).contains j) = true := by decide +kernel
theorem trip_back : lcgI 511 0 512 = 0 := by decide +kernel
theorem rnd_511 : Rnd 511 := by
  have add : ∀ (m x a k : Nat), lcgI m (lcgI m x a) k = lcgI m x (a + k) := fun m x a k => by
    induction k with
    | zero => rfl
    | succ k ih =>
      show (lcgI m (lcgI m x a) k * 5 + 1) % (m + 1) = (lcgI m x (a + k) * 5 + 1) % (m + 1)
      rw [ih]
  have at0 : ∀ j, j ≤ 511 → ∃ k, k ≤ 511 ∧ lcgI 511 0 k = j := fun j hj => by
    have h := List.all_eq_true.mp trip_whole j (List.mem_range.mpr (by omega))
    obtain ⟨k, hk⟩ := List.getElem?_of_mem (List.contains_iff_mem.mp h)
    have kl := (List.getElem?_eq_some_iff.mp hk).1
    rw [trip_len] at kl
    rw [trip_at 512 0 k kl] at hk
    exact ⟨k, by omega, Option.some.inj hk⟩
  refine ⟨rfl, fun i j hi hj => ?_⟩
  obtain ⟨a, ha, rfl⟩ := at0 i hi
  obtain ⟨b, hb, rfl⟩ := at0 j hj
  by_cases c : a ≤ b
  · exact ⟨b - a, by omega, by rw [add, show a + (b - a) = b by omega]⟩
  · refine ⟨512 + b - a, by omega, ?_⟩
    rw [add, show a + (512 + b - a) = 512 + b by omega, ← add, trip_back]
theorem run_at {m : Nat} (R : Rnd m) (h : Int) {j : Nat} (hj : j ≤ m) : ∃ n, n ≤ m + 12 ∧ runI m (SetTable.bits h) n = j := by
  obtain ⟨k, h1, h2⟩ := R.2 _ j (runI_le m (SetTable.bits h) 12) hj
  refine ⟨12 + k, by omega, ?_⟩
  rw [runI_tail (bits_lt h), h2]
theorem step_at {m : Nat} (R : Rnd m) (h : Int) {j : Nat} (hj : j ≤ m) : ∃ k, k < 10 * SetTable.turns m ∧ way m h k = j := by
  obtain ⟨n, h1, h2⟩ := run_at R h hj
  obtain ⟨k, h3, h4⟩ := run_nth m (SetTable.bits h) n
  refine ⟨k, ?_, ?_⟩
  · show k < 10 * (m + 15)
    omega
  · show (nth m _ k).j = j
    rw [h4]; exact h2
theorem way_in {m : Nat} (h : Int) (k : Nat) : way m h k ≤ m := by
  have q : ∀ (n : Nat) (p : SetTable.Probe), p.j + p.more ≤ m → (nth m p n).j ≤ m := fun n p hp => Nat.le_trans (Nat.le_add_right _ _) (nth_in n p hp)
  refine q k _ ?_
  have hi : SetTable.bits h % (m + 1) ≤ m := Nat.le_of_lt_succ (Nat.mod_lt _ (Nat.succ_pos m))
  have := runEnd_bd hi
  show SetTable.bits h % (m + 1) + (SetTable.runEnd m (SetTable.bits h % (m + 1)) - SetTable.bits h % (m + 1)) ≤ m
  omega
structure Plc (t : SetTable) (n : Nat) : Prop where
  ris : Ris t.place.toList
  dm : t.dummies = #[]
  sz : t.place.size = n
  rnd : Rnd t.mask
theorem Plc.free {t : SetTable} {n : Nat} (P : Plc t n) (hn : n ≤ t.mask) (h : Int) : ∃ K, K < 10 * SetTable.turns t.mask ∧ way t.mask h K ∉ t.place.toList ∧ ∀ k, k < K → way t.mask h k ∈ t.place.toList := by
  obtain ⟨j, j1, j2⟩ := st_missing t.place.toList (t.mask + 1) (by rw [Array.length_toList, P.sz]; omega)
  obtain ⟨k, k1, rfl⟩ := step_at P.rnd h (show j ≤ t.mask by omega)
  obtain ⟨K, a, b, c⟩ := st_least (p := fun k => way t.mask h k ∉ t.place.toList) k j2
  exact ⟨K, by omega, b, fun k' hk => Classical.not_not.mp (c k' hk)⟩
theorem Plc.put {t : SetTable} {n j : Nat} (P : Plc t n) (hj : j ∉ t.place.toList) : Plc (t.put j).1 (n + 1) ∧ (t.put j).1.fill = n + 1 ∧ SetTable.below t.place j ≤ n := by
  obtain ⟨c, _, _⟩ := below_cut P.ris j
  rw [P.sz] at c
  have pl := put_place t j
  have ne : t.place[SetTable.below t.place j]? ≠ some j := fun e => hj (List.mem_of_getElem? (by rw [Array.getElem?_toList]; exact e))
  have sz : (t.put j).1.place.size = n + 1 := by
    rw [← Array.length_toList, pl, len_ins _ (by rw [Array.length_toList, P.sz]; exact c), Array.length_toList, P.sz]
  have d := put_dm P.dm j
  refine ⟨⟨ris_insert P.ris ne, d, sz, P.rnd⟩, ?_, c⟩
  show (t.put j).1.place.size + (t.put j).1.dummies.size = n + 1
  rw [sz, d]; rfl
structure Sit (m n : Nat) (o : Array (Option Nat)) : Prop where
  sz : o.size = m + 1
  all : ∀ k, k < n → ∃ j, j ≤ m ∧ oAt o j = some k
  few : ∃ l : List Nat, l.length = n ∧ ∀ j, j ≤ m → oAt o j ≠ none → j ∈ l
theorem sit_one {m n : Nat} {o : Array (Option Nat)} (R : Rnd m) (S : Sit m n o) (hn : n ≤ m) (h : Int) : ∃ j, SetTable.layClean.free m o (SetTable.turns m) (SetTable.bits h % (m + 1)) (SetTable.bits h) = some j ∧ Sit m (n + 1) (o.setIfInBounds j (some n)) := by
  obtain ⟨l, l1, l2⟩ := S.few
  obtain ⟨e, e1, e2⟩ := st_missing l (m + 1) (by omega)
  have e3 : oAt o e = none := Classical.not_not.mp fun z => e2 (l2 e (by omega) z)
  obtain ⟨r, r1, r2⟩ := run_at R h (show e ≤ m by omega)
  have r3 : way m h (off m (SetTable.bits h % (m + 1)) (SetTable.bits h) r) = e := by
    show (nth m _ _).j = e
    rw [nth_off, itL_run, r2]; rfl
  obtain ⟨K, a, b, c⟩ := st_least (p := fun k => oAt o (way m h k) = none) _ (by rw [r3]; exact e3)
  have occ : ∀ k, k < K → (oAt o (way m h k)).isNone = false := fun k hk => by
    have := c k hk
    revert this
    cases oAt o (way m h k) <;> simp
  have fs := free_spec m o (SetTable.turns m) r (SetTable.bits h % (m + 1)) (SetTable.bits h) K (by show r < m + 15; omega) a occ (by rw [show oAt o (nth m (runAt m (SetTable.bits h % (m + 1)) (SetTable.bits h)) K).j = none from b]; rfl)
  refine ⟨_, fs, ?_⟩
  have wl : way m h K ≤ m := way_in h K
  have wo : way m h K < o.size := by rw [S.sz]; omega
  have self := oAt_set_self (owner := o) (some n) wo
  refine ⟨by rw [Array.size_setIfInBounds, S.sz], fun k hk => ?_, way m h K :: l, by rw [List.length_cons, l1], fun j hj z => ?_⟩
  · by_cases q : k = n
    · exact ⟨_, wl, by rw [q]; exact self⟩
    · obtain ⟨j, j1, j2⟩ := S.all k (by omega)
      refine ⟨j, j1, ?_⟩
      rw [oAt_set_ne _ fun y => ?_]
      · exact j2
      · rw [y] at j2
        rw [show oAt o (way m h K) = none from b] at j2
        cases j2
  · by_cases q : j = way m h K
    · rw [q]; exact List.mem_cons_self
    · rw [oAt_set_ne _ q] at z
      exact List.mem_cons_of_mem _ (l2 j hj z)
theorem sit_fold {m : Nat} (R : Rnd m) : ∀ (hs : List Int) (n : Nat) (o : Array (Option Nat)), Sit m n o → n + hs.length ≤ m → ∃ o', hs.foldl (stepF m) (some (o, n)) = some (o', n + hs.length) ∧ Sit m (n + hs.length) o'
  | [], n, o, S, _ => ⟨o, rfl, S⟩
  | h :: hs, n, o, S, hl => by
    rw [List.length_cons] at hl
    obtain ⟨j, e, S1⟩ := sit_one R S (by omega) h
    obtain ⟨o', f, S2⟩ := sit_fold R hs (n + 1) _ S1 (by omega)
    rw [show n + 1 + hs.length = n + (h :: hs).length by rw [List.length_cons]; omega] at f S2
    refine ⟨o', ?_, S2⟩
    rw [List.foldl_cons, stepF_some e, f]
theorem laid {t : SetTable} {hs : Array Int} {wanted M : Nat} (R : Rnd M) (hw : SetTable.sizeAbove wanted - 1 = M) (hn : hs.size ≤ M) : ∃ t' order, t.relaid hs wanted = some (t', order) ∧ order.toList.Perm (List.range hs.size) ∧ Plc t' hs.size ∧ t'.mask = M ∧ t'.led = t.led ∧ t'.plain = t.plain := by
  have S0 : Sit M 0 (Array.replicate (M + 1) none) := ⟨by simp, fun k hk => by omega, [], rfl, fun j hj z => absurd (oAt_init hj) z⟩
  obtain ⟨o, f, S⟩ := sit_fold R hs.toList 0 _ S0 (by rw [Array.length_toList]; omega)
  have el : 0 + hs.toList.length = hs.size := by rw [Array.length_toList]; omega
  rw [el] at f S
  have lc : SetTable.layClean M hs = some o := by rw [layClean_eq, f]; rfl
  obtain ⟨q1, q2⟩ := ris_live (fun j => o.getD j none) (List.range (M + 1)) List.pairwise_lt_range
  obtain ⟨l, l1, l2⟩ := S.few
  have nd : ((liveOf M o).map (·.1)).Nodup := List.Pairwise.imp (fun h => Nat.ne_of_lt h) q1
  have up : (liveOf M o).length ≤ hs.size := by
    have := nat_nodup_len _ l nd fun x hx => by
      obtain ⟨⟨y, k⟩, hq, rfl⟩ := List.mem_map.mp hx
      obtain ⟨b1, b2⟩ := (mem_live S.sz).1 hq
      exact l2 y b1 (by rw [b2]; simp)
    rw [List.length_map] at this
    omega
  have ins : ∀ k, k < hs.size → k ∈ (liveOf M o).map (·.2) := fun k hk => by
    obtain ⟨j, j1, j2⟩ := S.all k hk
    exact List.mem_map.mpr ⟨(j, k), (mem_live S.sz).2 ⟨j1, j2⟩, rfl⟩
  have dn := nat_nodup_len (List.range hs.size) _ List.nodup_range fun k hk => ins k (List.mem_range.mp hk)
  rw [List.length_range, List.length_map] at dn
  refine ⟨tabOf t M o, ((liveOf M o).map (·.2)).toArray, ?_, ?_, ⟨q1, rfl, ?_, R⟩, rfl, rfl, rfl⟩
  · rw [relaid_eq, hw, lc]; rfl
  · exact perm_range hs.size _ (by show ((liveOf M o).map (·.2)).length = _; rw [List.length_map]; omega) ins
  · show ((liveOf M o).map (·.1)).toArray.size = _
    rw [List.size_toArray, List.length_map]
    omega
end TT
set_option Elab.async false
set_option linter.all false
set_option maxRecDepth 100000
set_option maxHeartbeats 4000000
namespace TT
open PySem PySem.Spec PyProof.Rows L2
section
variable {P : Program} {w : World} {A : Around} {E : Value → Shared → Prop} {s : Shared}
structure Bag (P : Program) (w : World) (g : Heap) (a : Addr) (B : List (Addr × List Int)) (rs : Array (Int × Value)) (ep : Nat) (t : SetTable) : Prop where
  obj : ∃ o, g.get? a = some o ∧ o.ExactSet ∧ o.data = .set rs ep t
  rows : rs.toList = rowsOf P w B
  plc : Plc t B.length
  one : (B.map (·.2)).Nodup
  tup : ∀ p ∈ B, IsT P w g p.2 p.1
  pl : t.plain = true
  ld : w.params.followText "set-order" = true ∨ t.led = true
  room : B.length * 5 < t.mask * 3
  msk : t.mask = 7 ∨ t.mask = 31 ∨ t.mask = 127 ∨ t.mask = 511
variable {a : Addr} {B : List (Addr × List Int)} {rs : Array (Int × Value)} {ep : Nat} {t : SetTable}
theorem rows_len (h : rs.toList = rowsOf P w B) : rs.size = B.length := by
  rw [← Array.length_toList, h]
  exact List.length_map _
theorem Bag.len (G : Bag P w s.heap a B rs ep t) : rs.size = B.length := rows_len G.rows
theorem fits_of (p : Plc t B.length) (hl : rs.size = B.length) (hr : B.length ≤ t.mask) : t.fits rs.size = true := by
  have e : t.fill = B.length := by
    show t.place.size + t.dummies.size = _
    rw [p.dm, p.sz]; rfl
  unfold SetTable.fits
  rw [e, p.sz, hl]
  simp [hr]
theorem Bag.fits (G : Bag P w s.heap a B rs ep t) : t.fits rs.size = true := fits_of G.plc G.len (by have := G.room; omega)
theorem row_at (h : rs.toList = rowsOf P w B) {i : Nat} {p : Addr × List Int} (hp : B[i]? = some p) : rs[i]? = some (thash P w p.2, Value.ref p.1) := by
  rw [← Array.getElem?_toList, h]
  show (B.map _)[i]? = _
  rw [List.getElem?_map, hp]; rfl
theorem search_new (G : Bag P w s.heap a B rs ep t) {x : Addr} {k : List Int} (hx : IsT P w s.heap k x) (hu : A.units < cLine) (hk : k ∉ B.map (·.2)) {K : Nat} (K1 : K < 10 * SetTable.turns t.mask)
    (K2 : way t.mask (thash P w k) K ∉ t.place.toList) (K3 : ∀ c, c < K → way t.mask (thash P w k) c ∈ t.place.toList) {Q : SetFound → Shared → Prop} (q : Q (.free (way t.mask (thash P w k) K) false) s) :
    ∀ (f c : Nat) (st : Option SetTable.Probe), st.getD (t.probeStart (thash P w k)) = nth t.mask (t.probeStart (thash P w k)) c → c ≤ K → K < c + f → wpAny (model P w) A (setSearchFrom a (.ref x) (thash P w k) true f st) Q E s := by
  obtain ⟨o, ho, hex, hd⟩ := G.obj
  have st0 : t.probeStart (thash P w k) = runAt t.mask (SetTable.bits (thash P w k) % (t.mask + 1)) (SetTable.bits (thash P w k)) := rfl
  intro f
  induction f with
  | zero => intro c st _ h1 h2; omega
  | succ f ih =>
    intro c st hst hc hf
    rw [setSearchFrom_succ]
    refine wpAny_bind (wpAny_setState_of ho hd G.fits ?_)
    dsimp only
    have ng : ¬ t.gaveWay = true := by
      unfold SetTable.gaveWay
      rw [G.plc.rnd.1]
      decide
    refine wp_if_neg ng ?_
    try refine wpAny_bind (wpAny_pure ?_)
    have dn : ∀ (n : Nat) (p : SetTable.Probe), p.dummy = none → (nth t.mask p n).dummy = none := fun n => by
      induction n with
      | zero => exact fun p h => h
      | succ n ih2 => exact fun p h => ih2 (adv t.mask p) (by unfold adv; split <;> exact h)
    have sh : ∀ d, nth t.mask (nth t.mask (t.probeStart (thash P w k)) c) d = nth t.mask (t.probeStart (thash P w k)) (c + d) := fun d => (nth_add t.mask c _ d).symm
    have jw : ∀ d, (nth t.mask (nth t.mask (t.probeStart (thash P w k)) c) d).j = way t.mask (thash P w k) (c + d) := fun d => by rw [sh]; rfl
    have eK : c + (K - c) = K := by omega
    have spec := go_spec t G.plc.ris G.plc.dm (fun i => (rs[i]?.map (·.1)).getD 0) (thash P w k) (10 * SetTable.turns t.mask) (K - c) (nth t.mask (t.probeStart (thash P w k)) c) (dn c _ rfl) (by omega) (fun d hd => by rw [jw]; exact K3 _ (by omega)) (by rw [jw, eK]; exact K2)
    have pe : ∀ r, SetTable.probe.go t (fun i => (rs[i]?.map (·.1)).getD 0) (thash P w k) (10 * SetTable.turns t.mask) (nth t.mask (t.probeStart (thash P w k)) c) = r → t.probe (fun i => (rs[i]?.map (·.1)).getD 0) (thash P w k) (st.getD (t.probeStart (thash P w k))) = r := fun r hr => by
      rw [hst]; exact hr
    rcases spec with ⟨d, i, d1, d2, _, _, d5⟩ | ⟨_, d5⟩
    · rw [pe _ d5]
      dsimp only
      rw [jw] at d2 ⊢
      have il : i < B.length := by
        have := (List.getElem?_eq_some_iff.mp d2).1
        rw [Array.length_toList, G.plc.sz] at this
        exact this
      obtain ⟨p, hp⟩ : ∃ p, B[i]? = some p := ⟨_, List.getElem?_eq_getElem il⟩
      have pm := List.mem_of_getElem? hp
      have ne : p.2 ≠ k := fun z => hk (List.mem_map.mpr ⟨p, pm, z⟩)
      have nb : decide (p.2 = k) = false := decide_eq_false ne
      have rest : wpAny (model P w) A (searchRest a (.ref x) (thash P w k) true f rs t (way t.mask (thash P w k) (c + d)) i (nth t.mask (nth t.mask (t.probeStart (thash P w k)) c) (d + 1))) Q E s := by
        unfold searchRest
        rw [row_at G.rows hp]
        dsimp only
        refine wpAny_bind (wpAny_holding (wpAny_eqBool_tuple hu (G.tup p pm) hx ?_))
        refine wpAny_bind (wpAny_setState_of ho hd G.fits ?_)
        dsimp only
        refine wp_if_neg (by simp [ne]) ?_
        try refine wpAny_bind (wpAny_pure ?_)
        rw [sameMem]
        dsimp only
        have sl : t.slot (way t.mask (thash P w k) (c + d)) = .live i := slot_live G.plc.ris d2
        simp only [if_true, sl, row_at G.rows hp]
        refine wpAny_bind (wpAny_isSame_ref_self (wpAny_bind (wpAny_pure ?_)))
        simp only [if_true]
        refine wp_if_neg (by simp [ne]) ?_
        exact ih (c + (d + 1)) _ (sh (d + 1)) (by omega) (by omega)
      by_cases hl : t.led = true
      · refine wp_if_neg (by simp [hl]) ?_
        try refine wpAny_bind (wpAny_pure ?_)
        exact rest
      · refine wp_if_pos (by simp [hl]) ?_
        refine wpAny_bind (seen_tup hx (fun y hy => ?_) ?_)
        · obtain ⟨e, he, rfl⟩ := List.mem_map.mp hy
          have e2 : e ∈ rs.toList := by
            have : e ∈ rs ∧ e.1 = thash P w k := by simpa using he
            simpa using this.1
          rw [G.rows] at e2
          obtain ⟨p2, hp2, rfl⟩ := List.mem_map.mp e2
          exact ⟨p2.2, p2.1, rfl, G.tup p2 hp2⟩
        · refine wp_if_neg (by decide) ?_
          try refine wpAny_bind (wpAny_pure ?_)
          exact rest
    · rw [pe _ d5]
      dsimp only
      rw [jw, eK]
      exact wpAny_pure q
theorem relay_new {o : Obj} (ho : s.heap.get? a = some o) (hex : o.ExactSet) (hd : o.data = .set rs ep t) (hrows : rs.toList = rowsOf P w B) (p : Plc t B.length) (hfl : B.length ≤ t.mask) (one : (B.map (·.2)).Nodup) (tup : ∀ p ∈ B, IsT P w s.heap p.2 p.1) (pl : t.plain = true)
    (ld : w.params.followText "set-order" = true ∨ t.led = true) {wanted M : Nat} (hw : SetTable.sizeAbove wanted - 1 = M) (R : Rnd M) (hM : M = 31 ∨ M = 127 ∨ M = 511) (hw2 : SetTable.sizeAbove wanted ≤ 512) (hn : B.length * 5 < M * 3) {Q : Unit → Shared → Prop}
    (q : ∀ g' B' rs' ep' t', Heap.SameBut a s.heap g' → Bag P w g' a B' rs' ep' t' → B'.Perm B → Q () { s with heap := g' }) : wpAny (model P w) A (setRelay a wanted) Q E s := by
  have len := rows_len hrows
  obtain ⟨t', ord, e, pm, p', m', l', n'⟩ := laid (t := t) (hs := rs.map (·.1)) R hw (by rw [Array.size_map, len]; omega)
  rw [Array.size_map, len] at pm p'
  obtain ⟨B2, r1, r2, _⟩ := order_rows B rs ord hrows pm
  have len2 := (rows_len r1).trans r2.length_eq
  rw [setRelay_eq]
  refine wpAny_bind (wpAny_setState_of ho hd (fits_of p len hfl) ?_)
  dsimp only
  refine wp_if_neg (by rw [sizeLine_eq]; omega) ?_
  try refine wpAny_bind (wpAny_pure ?_)
  rw [e]
  dsimp only
  refine wpAny_bind ?_
  refine wp_if_neg (by rw [len2, len]; simp) ?_
  try refine wpAny_bind (wpAny_pure ?_)
  refine wpAny_pure ?_
  dsimp only
  have bl := r2.length_eq
  refine wpAny_storeSet_of ho hd ?_ (by rw [len2, sizeLine_eq]; omega)
  have sb : Heap.SameBut a s.heap (s.heap.update a (Obj.putSet (ord.filterMap (rs[·]?)) t')) := Heap.SameBut.update ..
  refine q _ B2 _ (ep + 1) t' sb ⟨⟨_, store_at ho hd, ⟨hex.1, hex.2.1, hex.2.2⟩, rfl⟩, r1, by rw [bl]; exact p', (r2.map (·.2)).nodup_iff.mpr one, fun y hy => isT_same (tup y (r2.mem_iff.mp hy)) ho hd sb, n'.trans pl, by rw [l']; exact ld, by rw [bl, m']; exact hn, by rw [m']; omega⟩ r2
end
end TT
set_option Elab.async false
set_option linter.all false
set_option maxRecDepth 100000
set_option maxHeartbeats 4000000
namespace TT
open PySem PySem.Spec PyProof.Rows L2
theorem wide_5 : SetTable.sizeAbove (SetTable.grown 5) = 32 := by decide +kernel
theorem wide_19 : SetTable.sizeAbove (SetTable.grown 19) = 128 := by decide +kernel
theorem wide_77 : SetTable.sizeAbove (SetTable.grown 77) = 512 := by decide +kernel
section
variable {P : Program} {w : World} {A : Around} {E : Value → Shared → Prop} {s : Shared}
variable {a : Addr} {B : List (Addr × List Int)} {rs : Array (Int × Value)} {ep : Nat} {t : SetTable}
theorem add_new (G : Bag P w s.heap a B rs ep t) {x : Addr} {k : List Int} (hx : IsT P w s.heap k x) (hu : A.units < cLine) (hk : k ∉ B.map (·.2)) (hn : B.length + 1 < 307) {Q : Bool → Shared → Prop}
    (q : ∀ b g' B' rs' ep' t', Heap.SameBut a s.heap g' → Bag P w g' a B' rs' ep' t' → B'.Perm ((x, k) :: B) → Q b { s with heap := g' }) : wpAny (model P w) A (setAddHashed a (.ref x) (thash P w k)) Q E s := by
  obtain ⟨o, ho, hex, hd⟩ := G.obj
  have len := G.len
  have room := G.room
  have msk := G.msk
  obtain ⟨K, K1, K2, K3⟩ := G.plc.free (by omega) (thash P w k)
  have K4 : K < 100000 := by
    have : 10 * SetTable.turns t.mask = 10 * (t.mask + 15) := rfl
    omega
  unfold setAddHashed
  refine wpAny_holding ?_
  rw [show (100000 : Nat) = 99999 + 1 from rfl, setAddHashedIn_succ]
  refine wpAny_bind (wpAny_setState_of ho hd G.fits ?_)
  dsimp only
  refine wp_if_neg (by simp [byScan, Value.scannable]) ?_
  try refine wpAny_bind (wpAny_pure ?_)
  refine wpAny_bind ?_
  unfold setSearch
  refine search_new G hx hu hk K1 K2 K3 ?_ 100000 0 none rfl (Nat.zero_le _) (by omega)
  dsimp only
  refine wpAny_bind (wpAny_setState_of ho hd G.fits ?_)
  dsimp only
  obtain ⟨p1, p2, p3⟩ := G.plc.put K2
  have e0 : (t.put (way t.mask (thash P w k) K)).2 = SetTable.below t.place (way t.mask (thash P w k) K) := rfl
  have e1 : (t.put (way t.mask (thash P w k) K)).1.plain = true := G.pl
  have e2 : (t.put (way t.mask (thash P w k) K)).1.mask = t.mask := rfl
  have e3 : (t.put (way t.mask (thash P w k) K)).1.led = t.led := rfl
  generalize SetTable.below t.place (way t.mask (thash P w k) K) = c at e0 p3
  generalize t.put (way t.mask (thash P w k) K) = pt at e0 e1 e2 e3 p1 p2 ⊢
  obtain ⟨t1, c'⟩ := pt
  dsimp only at e0 e1 e2 e3 p1 p2 ⊢
  subst e0
  first
    | (refine wpAny_bind ?_; refine wp_if_pos e1 ?_; refine hashBy_tup hx ?_)
    | refine wp_if_pos e1 (wpAny_bind (hashBy_tup hx ?_))
  simp only [if_true]
  have rin : (SetTable.insertAt rs c' (thash P w k, Value.ref x)).toList = rowsOf P w (B.take c' ++ (x, k) :: B.drop c') := by
    rw [SetTable.toList_insertAt, rows_put, G.rows]
  have pm := put_perm B c' (x, k)
  have bl : (B.take c' ++ (x, k) :: B.drop c').length = B.length + 1 := pm.length_eq
  have one1 : ((B.take c' ++ (x, k) :: B.drop c').map (·.2)).Nodup := by
    rw [(pm.map (·.2)).nodup_iff]
    exact List.nodup_cons.mpr ⟨hk, G.one⟩
  have len1 := (rows_len rin).trans bl
  generalize SetTable.insertAt rs c' (thash P w k, Value.ref x) = rs1 at rin len1 ⊢
  generalize B.take c' ++ (x, k) :: B.drop c' = B1 at pm bl one1 rin
  refine wpAny_bind (wpAny_storeSet_of ho hd ?_ (by rw [len1, sizeLine_eq]; omega))
  have sb : Heap.SameBut a s.heap (s.heap.update a (Obj.putSet rs1 t1)) := Heap.SameBut.update ..
  have ho1 := store_at (es' := rs1) (t' := t1) ho hd
  generalize s.heap.update a (Obj.putSet rs1 t1) = g1 at sb ho1 ⊢
  have tup1 : ∀ p ∈ B1, IsT P w g1 p.2 p.1 := fun p hp => by
    rcases List.mem_cons.mp (pm.mem_iff.mp hp) with rfl | hp
    · exact isT_same hx ho hd sb
    · exact isT_same (G.tup p hp) ho hd sb
  have ld1 : w.params.followText "set-order" = true ∨ t1.led = true := by rw [e3]; exact G.ld
  have full : t1.tooFull = true ↔ t.mask * 3 ≤ (B.length + 1) * 5 := by
    unfold SetTable.tooFull
    rw [decide_eq_true_eq, p2, e2]
  by_cases hf : t1.tooFull = true
  · first
      | (refine wpAny_bind ?_; refine wp_if_pos (by simp [hf]) ?_)
      | (refine wp_if_pos (by simp [hf]) ?_; refine wpAny_bind ?_)
    have hf2 := full.mp hf
    rw [len]
    have go : ∀ M, SetTable.sizeAbove (SetTable.grown (B.length + 1)) = M + 1 → Rnd M → (M = 31 ∨ M = 127 ∨ M = 511) → (B.length + 1) * 5 < M * 3 → wpAny (model P w) A (setRelay a (SetTable.grown (B.length + 1))) (fun _ s' => wpAny (model P w) A (pure true) Q E s') E { s with heap := g1 } := fun M h1 h2 h3 h4 => by
      refine relay_new (s := { s with heap := g1 }) ho1 ⟨hex.1, hex.2.1, hex.2.2⟩ rfl rin (by rw [bl]; exact p1) (by rw [bl, e2]; omega) one1 tup1 e1 ld1 (by rw [h1]; rfl) h2 h3 (by rw [h1]; omega) (by rw [bl]; exact h4) fun g2 B2 rs2 ep2 t2 sb2 G2 pm2 => ?_
      exact wpAny_pure (q true g2 B2 rs2 ep2 t2 (sb.trans sb2) G2 (pm2.trans pm))
    rcases msk with e | e | e | e
    · have z : B.length = 4 := by rw [e] at hf2 room; omega
      exact go 31 (by rw [z]; exact wide_5) (rnd_old (.inr (.inl rfl))) (.inl rfl) (by omega)
    · have z : B.length = 18 := by rw [e] at hf2 room; omega
      exact go 127 (by rw [z]; exact wide_19) (rnd_old (.inr (.inr rfl))) (.inr (.inl rfl)) (by omega)
    · have z : B.length = 76 := by rw [e] at hf2 room; omega
      exact go 511 (by rw [z]; exact wide_77) rnd_511 (.inr (.inr rfl)) (by omega)
    · exfalso
      rw [e] at hf2
      omega
  · first
      | refine wp_if_neg (by simp [hf]) ?_
      | (refine wpAny_bind ?_; refine wp_if_neg (by simp [hf]) ?_; refine wpAny_pure ?_)
    have hf2 : ¬ t.mask * 3 ≤ (B.length + 1) * 5 := fun z => hf (full.mpr z)
    exact wpAny_pure (q true g1 B1 rs1 (ep + 1) t1 sb ⟨⟨_, ho1, ⟨hex.1, hex.2.1, hex.2.2⟩, rfl⟩, rin, by rw [bl]; exact p1, one1, tup1, e1, ld1, by rw [bl, e2]; omega, by rw [e2]; exact msk⟩ pm)
theorem Bag.keep {g g' : Heap} (G : Bag P w g a B rs ep t) (ha : ∀ o, g.get? a = some o → g'.get? a = some o) (ht : ∀ p ∈ B, IsT P w g' p.2 p.1) : Bag P w g' a B rs ep t := by
  obtain ⟨o, ho, r⟩ := G.obj
  exact { G with obj := ⟨o, ha o ho, r⟩, tup := ht }
theorem bag_new {g : Heap} (ho : g.get? a = some { cls := .type "set", dict := none, data := .set #[] 0 (.fresh 0 0 (!w.params.followText "set-order")) }) : Bag P w g a [] #[] 0 (.fresh 0 0 (!w.params.followText "set-order")) where
  obj := ⟨_, ho, ⟨rfl, rfl, rfl⟩, rfl⟩
  rows := rfl
  plc := ⟨List.Pairwise.nil, rfl, rfl, rnd_old (.inl rfl)⟩
  one := List.nodup_nil
  tup := fun p hp => by cases hp
  pl := rfl
  ld := by
    by_cases c : w.params.followText "set-order" = true
    · exact .inl c
    · refine .inr ?_
      show (!w.params.followText "set-order") = true
      simp [c]
  room := by
    show 0 * 5 < 7 * 3
    omega
  msk := .inl rfl
end
end TT
set_option Elab.async false
set_option linter.all false
set_option maxRecDepth 100000
set_option maxHeartbeats 4000000
namespace TT
open PySem PySem.Spec PyProof.Rows L2
section
variable {P : Program} {w : World} {A : Around} {E : Value → Shared → Prop} {s : Shared}
structure Upto (ks : List (Addr × List Int)) (i : Nat) (B : List (Addr × List Int)) : Prop where
  perm : B.Perm (ks.take i)
theorem upto_next {ks B B' : List (Addr × List Int)} {i : Nat} {p : Addr × List Int} (U : Upto ks i B) (hp : ks[i]? = some p) (pm : B'.Perm (p :: B)) : Upto ks (i + 1) B' :=
  ⟨by
    rw [take_next hp]
    exact pm.trans ((U.perm.cons p).trans (List.perm_append_singleton p _).symm)⟩
theorem fill {I : Addr} {fp wr : List Addr} {G : Array GenState → Array GenState → Prop} {n : Nat} {Pv : Nat → Value → Prop} {St : Nat → Shared → Prop} {R : Result → Shared → Prop}
    (W : WalksS P w A.in1 I fp wr G n Pv St) (S : Addr) (nS : S ∉ fp) (ks : List (Addr × List Int)) (hn : n = ks.length) (few : ks.length < 307) (one : (ks.map (·.2)).Nodup) (val : ∀ i v, Pv i v → ∃ p, ks[i]? = some p ∧ v = .ref p.1)
    (g0 : Heap) (hk : ∀ p ∈ ks, IsT P w g0 p.2 p.1) (z0 : g0.get? S = none) (zw : ∀ b ∈ wr, g0.get? b = none) (hu : A.in1.units < cLine) :
    ∀ (d i : Nat) (s : Shared), i + d = n → St i s → (∀ b o, g0.get? b = some o → s.heap.get? b = some o) → (∃ B rs ep t, Bag P w s.heap S B rs ep t ∧ Upto ks i B) →
      (∀ s' B rs ep t, Moved (S :: wr) G s s' → Bag P w s'.heap S B rs ep t → Upto ks n B → (∀ b o, g0.get? b = some o → s'.heap.get? b = some o) → R (.ok (.ret .none)) s') →
      codeAny (model P w) A (.builtin "set.update.loop" ⟨[.ref S, .ref I], []⟩) R s := by
  have nw : S ∉ wr := fun z => nS (W.sub _ z)
  have more : ∀ b ∈ wr, b ∈ S :: wr := fun b hb => List.mem_cons_of_mem _ hb
  have keep : ∀ {s s' : Shared}, Moved wr G s s' → (∀ b o, g0.get? b = some o → s.heap.get? b = some o) → ∀ b o, g0.get? b = some o → s'.heap.get? b = some o := fun m k b o e =>
    m.heap b o (fun z => by rw [zw b z] at e; cases e) (k b o e)
  have mem : ∀ {i : Nat} {B : List (Addr × List Int)}, Upto ks i B → ∀ p ∈ B, p ∈ ks := fun U p hp => List.mem_of_mem_take (U.perm.mem_iff.mp hp)
  intro d
  induction d with
  | zero =>
    intro i s hi hst k ⟨B, rs, ep, t, hB, U⟩ hR
    obtain rfl : i = n := by omega
    refine codeAny_builtin F.entry_set_update_loop ?_
    rw [Around.under_plainId F.plain_set_update_loop _]
    show wpAny _ A.in1 (pyNext (.ref I) >>= _) _ _ s
    refine wpAny_bind (W.done s _ _ hst fun s' m => ?_)
    have k' := keep m k
    exact wpAny_pure (hR s' B rs ep t (m.mono more) (hB.keep (fun o e => m.heap S o nw e) fun p hp => isT_keep (hk p (mem U p hp)) k') U k')
  | succ d ih =>
    intro i s hi hst k ⟨B, rs, ep, t, hB, U⟩ hR
    refine codeAny_builtin F.entry_set_update_loop ?_
    rw [Around.under_plainId F.plain_set_update_loop _]
    show wpAny _ A.in1 (pyNext (.ref I) >>= _) _ _ s
    refine wpAny_bind (W.item i s _ _ (by omega) hst fun v s' hP hst' m => ?_)
    obtain ⟨p, hp, rfl⟩ := val i v hP
    have k' := keep m k
    have hB' : Bag P w s'.heap S B rs ep t := hB.keep (fun o e => m.heap S o nw e) fun q hq => isT_keep (hk q (mem U q hq)) k'
    have hx : IsT P w s'.heap p.2 p.1 := isT_keep (hk p (List.mem_of_getElem? hp)) k'
    have il := (List.getElem?_eq_some_iff.mp hp).1
    have bl : B.length = i := by rw [U.perm.length_eq, List.length_take]; omega
    have new : p.2 ∉ B.map (·.2) := fun z => by
      rw [(U.perm.map (·.2)).mem_iff] at z
      have nd := one
      rw [← List.take_append_drop (i + 1) ks, take_next hp, List.map_append, List.map_append] at nd
      exact (List.nodup_append.mp (List.nodup_append.mp nd).1).2.2 p.2 z p.2 (by simp) rfl
    show wpAny _ A.in1 (holding [Value.ref p.1] (setAdd S (.ref p.1)) >>= _) _ _ s'
    refine wpAny_bind (wpAny_holding ?_)
    unfold setAdd
    refine wpAny_holding ?_
    refine wpAny_bind (wpAny_pyHash_tuple hu hx ?_)
    refine add_new (s := { s' with toks := s'.toks + (p.2.length + 1) }) hB' hx hu new (by omega) fun b g' B' rs' ep' t' sb hB2 pm => ?_
    have k2 : ∀ b o, g0.get? b = some o → g'.get? b = some o := fun b o e => (sb.2 b (fun z => by rw [z, z0] at e; cases e)).trans (k' b o e)
    refine wpAny_pure ⟨plainId_quiet F.plain_set_update_loop _, ih (i + 1) _ (by omega) (W.frame _ s' _ _ hst' (Nat.le_add_right _ _) fun b hb o e => ?_) k2 ⟨B', rs', ep', t', hB2, upto_next U hp pm⟩ fun s2 B2 rs2 ep2 t2 m2 hB3 U2 k3 => ?_⟩
    · exact (sb.2 b fun z => nS (z ▸ hb)).trans e
    · exact hR s2 B2 rs2 ep2 t2 (Moved.trans W.gtrans ((m.mono more).then_heap (Nat.le_add_right _ _) fun b o hb e => (sb.2 b fun z => hb (by rw [z]; exact List.mem_cons_self)).trans e) m2) hB3 U2 k3
end
end TT
set_option Elab.async false
set_option linter.all false
set_option maxRecDepth 100000
set_option maxHeartbeats 4000000
namespace TT
open PySem PySem.Spec PyProof.Rows L2
abbrev newO (w : World) : Obj := { cls := .type "set", dict := none, data := .set #[] 0 (.fresh 0 0 (!w.params.followText "set-order")) }
section
variable {P : Program} {w : World} {A : Around} {E : Value → Shared → Prop} {s : Shared}
set_option maxHeartbeats 3200000 in
theorem call_bag {x : Addr} {its : Array Value} (ks : List (Addr × List Int)) {Q : Value → Shared → Prop} (a0 : A.handled = none) (hx : s.heap.IsList x its) (hi : its.toList = ks.map fun p => Value.ref p.1) (hk : ∀ p ∈ ks, IsT P w s.heap p.2 p.1) (few : ks.length < 307) (one : (ks.map (·.2)).Nodup) (hu : A.units + 3 < cLine)
    (q : ∀ (g : Heap) (tk : Nat) B rs ep t, Bag P w g s.heap.objs.size B rs ep t → B.length = ks.length → (∀ b o, s.heap.get? b = some o → g.get? b = some o) → Q (.ref s.heap.objs.size) { s with heap := g, toks := tk }) :
    wpAny (model P w) A (call (.type "set") [.ref x]) Q E s := by
  have len : its.size = ks.length := by rw [← Array.length_toList, hi, List.length_map]
  obtain ⟨c0, c1, mro⟩ := F.called_set.mro
  have made := F.called_set.made
  have sub := F.called_set.sub
  refine wpAny_call (codeAny_of_tree ?_)
  show wpAny _ _ (callAny (.type "set") _) _ _ s
  refine wpAny_pure ⟨Code.quiet_builtin _ (by decide +kernel), codeAny_builtin F.entry_type_call ?_⟩
  rw [Around.under_plain (weight_type_call_type "set" [.ref x] []) rfl]
  have z1 := F.called_set.notType
  have z2 := F.called_set.canCreate
  have z3 := F.typeCall_set_1 (.ref x)
  repeat (any_goals (first | assumption | wp_step))
  refine codeAny_mono (code_set_led1 (.ref x) (E := E) (Q₁ := fun ob t => ob = .ref s.heap.objs.size ∧ t = { s with heap := s.heap.push (newO w) }) ⟨rfl, rfl⟩) fun r1 t1 q1 => ?_
  cases r1 with
  | error e => exact q1
  | ok f1 =>
    cases f1 with
    | ret ob =>
      obtain ⟨rfl, rfl⟩ := q1
      have new : (s.heap.push (newO w)).get? s.heap.objs.size = some (newO w) := Heap.get?_push_size _ rfl
      have ty : Shared.TypeIs { s with heap := s.heap.push (newO w) } (.ref s.heap.objs.size) "set" := ⟨_, new, rfl⟩
      have z4 := F.called_set.init.lookup
      have z5 := F.called_set.init.bind (.ref s.heap.objs.size)
      repeat (any_goals (first | assumption | wp_step))
      refine codeAny_mono (codeAny_call_builtin (R := wants (fun v t => v = .none ∧ ∃ g tk B rs ep tb, t = { s with heap := g, toks := tk } ∧ Bag P w g s.heap.objs.size B rs ep tb ∧ B.length = ks.length ∧
          (∀ b o, s.heap.get? b = some o → g.get? b = some o)) E) F.called_set.init.plain F.entry_set_init (check_set_init_1 ty ?_)) fun r2 t2 q2 => ?_
      · obtain ⟨ox, gx, cx, nx, dx⟩ := hx
        obtain ⟨oc, od, odt, osl⟩ := ox
        simp only at cx dx
        subst cx; subst dx
        have gx' : (s.heap.push (newO w)).get? x = some { cls := .type "list", dict := od, data := .seq its nx, slots := osl } := Heap.get?_push_of_some _ gx
        have z6 := F.sub_list_set
        have z7 := F.sub_list_frozenset
        have z8 : (Value.type "list" == Value.type "dict") = false := by decide
        have lx : (s.heap.push (newO w)).IsList x its := ⟨_, gx', rfl, nx, rfl⟩
        unfold Builtin.«set.__init__» noKeywords Builtin.Frozenset.updateFrom
        generalize hPI : pyIter = PI
        wp_walk
        subst hPI
        refine wpAny_pyIter_list lx (wpAny_bind (wpAny_runValue ?_))
        have below : x < s.heap.objs.size := Heap.lt_size gx
        have a3 : A.in1.in1.in1.handled = none := by simp [a0]
        have szz : (s.heap.push (newO w)).objs.size = s.heap.objs.size + 1 := Heap.size_push ..
        have nI : x ≠ (s.heap.push (newO w)).objs.size := by
          rw [szz]
          exact Nat.ne_of_lt (Nat.lt_succ_of_lt below)
        have nS : s.heap.objs.size ∉ [(s.heap.push (newO w)).objs.size, x] := by
          rw [szz]
          simp only [List.mem_cons, List.not_mem_nil, or_false, not_or]
          exact ⟨Nat.ne_of_lt (Nat.lt_succ_self _), Nat.ne_of_gt below⟩
        have val : ∀ (i : Nat) (v : Value), its[i]? = some v → ∃ p, ks[i]? = some p ∧ v = .ref p.1 := fun i v hv => by
          rw [← Array.getElem?_toList, hi, List.getElem?_map] at hv
          obtain ⟨p, hp, rfl⟩ := Option.map_eq_some_iff.mp hv
          exact ⟨p, hp, rfl⟩
        have gone : ∀ b, s.heap.objs.size ≤ b → s.heap.get? b = none := fun b hb => by
          rcases Option.eq_none_or_eq_some (s.heap.get? b) with e | ⟨o, e⟩
          · exact e
          · exact absurd (Heap.lt_size e) (Nat.not_lt.mpr hb)
        refine fill ((Walks.list a3 _ x nI its).toS) s.heap.objs.size nS ks len few one val s.heap hk (gone _ (Nat.le_refl _)) (fun b hb => gone b (by
          rw [List.mem_singleton.mp hb, szz]
          omega)) hu its.size 0 _ (by omega) ⟨⟨_, Heap.get?_push_size _ rfl, rfl, rfl⟩, lx.push _⟩ (fun b o e => Heap.get?_push_of_some _ (Heap.get?_push_of_some _ e)) ⟨[], #[], 0, _, bag_new (Heap.get?_push_of_some _ new), ⟨List.Perm.refl _⟩⟩ ?_
        intro t B rs ep tb hm hB U hkp
        obtain ⟨g, gn, dr, tk, oo⟩ := t
        have e1 : gn = s.gens := hm.gens
        have e2 : dr = s.drawn := hm.drawn
        have e3 : oo = s.os := hm.os
        subst e1; subst e2; subst e3
        refine wpAny_pure ?_
        show wpAny _ _ (ret Value.none) _ _ _
        have bl : B.length = ks.length := by rw [U.perm.length_eq, len, List.take_length]
        exact wpAny_pure ⟨rfl, g, tk, B, rs, ep, tb, rfl, hB, bl, hkp⟩
      · cases r2 with
        | error e => exact q2
        | ok f2 =>
          cases f2 with
          | ret v =>
            obtain ⟨rfl, g, tk, B, rs, ep, tb, rfl, hB, bl, hkp⟩ := q2
            repeat (any_goals (first | assumption | wp_step))
            exact q _ _ _ _ _ _ hB bl hkp
          | _ => exact q2.elim
    | _ => exact q1.elim
end
end TT
set_option Elab.async false
set_option linter.all false
set_option maxRecDepth 100000
set_option maxHeartbeats 1000000
namespace EE
open PySem PySem.Spec PyProof.Rows L2
def nodupB (l : List (Int × Int)) : Bool := match l with
  | [] => true
  | p :: r => !(r.contains p) && nodupB r
theorem nodupB_iff : ∀ {l : List (Int × Int)}, nodupB l = true ↔ l.Nodup
  | [] => by simp [nodupB]
  | p :: r => by
    rw [nodupB, Bool.and_eq_true, nodupB_iff, List.nodup_cons]
    simp
theorem nat_le_of_nodup {α : Type} [DecidableEq α] : ∀ {l m : List α}, l.Nodup → (∀ x ∈ l, x ∈ m) → l.length ≤ m.length
  | [], _, _, _ => Nat.zero_le _
  | x :: l, m, hn, hs => by
    obtain ⟨h1, h2⟩ := List.nodup_cons.mp hn
    have hx := hs x List.mem_cons_self
    have ih := nat_le_of_nodup (l := l) (m := m.erase x) h2 fun y hy => (List.mem_erase_of_ne (show y ≠ x from fun e => h1 (e ▸ hy))).2 (hs y (List.mem_cons_of_mem _ hy))
    have := List.length_erase_of_mem hx
    have := List.length_pos_of_mem hx
    rw [List.length_cons]
    omega
abbrev setLim : Nat := 307
def dLenSetP (a : DE) : DE := fun es h => (a es h).bind fun x h1 => match x with
  | .ref n => match lstAt h1 n with
    | some xs => match pairsE xs with
      | some l => if nodupB l && decide (l.length < setLim) = true then .ok (.int l.length) h1 else .no
      | none => .no
    | none => .no
  | _ => .no
def tLenSetP (K : Fg) (ta : TE) : TE := fun σ H Q => ta σ H fun x H1 => ∃ (l : Addr) (ks : List (Addr × List Int)), x = V.ref l ∧ SqL K H1 l (ks.map fun p => V.ref p.1) ∧ (∀ p ∈ ks, SqT K H1 p.1 (p.2.map V.int)) ∧ ks.length < setLim ∧ (ks.map (·.2)).Nodup ∧ Q (.int ks.length) H1
abbrev emO (w : World) : Obj := { cls := .type "set", dict := none, data := .set #[] 0 (.fresh 0 0 (!w.params.followText "set-order")) }
section
variable {P : Program} {w : World} {A : Around} {E : Value → Shared → Prop} {s : Shared}
set_option maxHeartbeats 3200000 in
theorem call_setL {x : Addr} {its : Array Value} (ns : List Int) {Q : Value → Shared → Prop} (a0 : A.handled = none) (hx : s.heap.IsList x its) (hi : IntsAre its.toList ns) (room : ns.length + 1 < scanBound)
    (k : ∀ (g : Heap) (tk n : Nat), SetR w g s.heap.objs.size (fun j => decide (j ∈ ns)) n → n ≤ ns.length → (∀ b o, s.heap.get? b = some o → g.get? b = some o) → Q (.ref s.heap.objs.size) { s with heap := g, toks := tk }) :
    wpAny (model P w) A (call (.type "set") [.ref x]) Q E s := by
  have len : its.size = ns.length := by rw [← Array.length_toList]; exact IntsAre.length hi
  obtain ⟨c0, c1, mro⟩ := F.called_set.mro
  have made := F.called_set.made
  have sub := F.called_set.sub
  refine wpAny_call (codeAny_of_tree ?_)
  show wpAny _ _ (callAny (.type "set") _) _ _ s
  refine wpAny_pure ⟨Code.quiet_builtin _ (by decide +kernel), codeAny_builtin F.entry_type_call ?_⟩
  rw [Around.under_plain (weight_type_call_type "set" [.ref x] []) rfl]
  have z1 := F.called_set.notType
  have z2 := F.called_set.canCreate
  have z3 := F.typeCall_set_1 (.ref x)
  repeat (any_goals (first | assumption | wp_step))
  refine codeAny_mono (code_set_led1 (.ref x) (E := E) (Q₁ := fun ob t => ob = .ref s.heap.objs.size ∧ t = { s with heap := s.heap.push (emO w) }) ⟨rfl, rfl⟩) fun r1 t1 q1 => ?_
  cases r1 with
  | error e => exact q1
  | ok f1 =>
    cases f1 with
    | ret ob =>
      obtain ⟨rfl, rfl⟩ := q1
      have new : (s.heap.push (emO w)).get? s.heap.objs.size = some (emO w) := Heap.get?_push_size _ rfl
      have ty : Shared.TypeIs { s with heap := s.heap.push (emO w) } (.ref s.heap.objs.size) "set" := ⟨_, new, rfl⟩
      have z4 := F.called_set.init.lookup
      have z5 := F.called_set.init.bind (.ref s.heap.objs.size)
      repeat (any_goals (first | assumption | wp_step))
      refine codeAny_mono (codeAny_call_builtin (R := wants (fun v t => v = .none ∧ ∃ g tk n, t = { s with heap := g, toks := tk } ∧ SetR w g s.heap.objs.size (fun j => decide (j ∈ ns)) n ∧ n ≤ ns.length ∧
          (∀ b o, s.heap.get? b = some o → g.get? b = some o)) E) F.called_set.init.plain F.entry_set_init (check_set_init_1 ty ?_)) fun r2 t2 q2 => ?_
      · obtain ⟨ox, gx, cx, nx, dx⟩ := hx
        obtain ⟨oc, od, odt, osl⟩ := ox
        simp only at cx dx
        subst cx; subst dx
        have gx' : (s.heap.push (emO w)).get? x = some { cls := .type "list", dict := od, data := .seq its nx, slots := osl } := Heap.get?_push_of_some _ gx
        have z6 := F.sub_list_set
        have z7 := F.sub_list_frozenset
        have z8 : (Value.type "list" == Value.type "dict") = false := by decide
        have lx : (s.heap.push (emO w)).IsList x its := ⟨_, gx', rfl, nx, rfl⟩
        unfold Builtin.«set.__init__» noKeywords Builtin.Frozenset.updateFrom
        generalize hPI : pyIter = PI
        wp_walk
        subst hPI
        refine wpAny_pyIter_list lx (wpAny_bind (wpAny_runValue ?_))
        have below : x < s.heap.objs.size := Heap.lt_size gx
        have a3 : A.in1.in1.in1.handled = none := by simp [a0]
        have szz : (s.heap.push (emO w)).objs.size = s.heap.objs.size + 1 := Heap.size_push ..
        have nI : x ≠ (s.heap.push (emO w)).objs.size := by
          rw [szz]
          exact Nat.ne_of_lt (Nat.lt_succ_of_lt below)
        have nS : s.heap.objs.size ∉ [(s.heap.push (emO w)).objs.size, x] := by
          rw [szz]
          simp only [List.mem_cons, List.not_mem_nil, or_false, not_or]
          exact ⟨Nat.ne_of_lt (Nat.lt_succ_self _), Nat.ne_of_gt below⟩
        have val : ∀ (i : Nat) (v : Value), its[i]? = some v → ∃ n t, ns[i]? = some n ∧ v = .int n t := fun i v hv => by
          have il : i < ns.length := by rw [← len]; exact (Array.getElem?_eq_some_iff.mp hv).1
          obtain ⟨t, e⟩ := IntsAre.int_at hi i v (by rw [Array.getElem?_toList]; exact hv)
          exact ⟨ns[i], t, List.getElem?_eq_getElem il, by rw [e, List.getD_eq_getElem?_getD, List.getElem?_eq_getElem il]; rfl⟩
        refine set_update_ints ((Walks.list a3 _ x nI its).toS) s.heap.objs.size nS ns len room val (its.size - 0) 0 _ (by omega) (Nat.zero_le _) ⟨⟨_, Heap.get?_push_size _ rfl, rfl, rfl⟩, lx.push _⟩ ⟨0, Nat.le_refl 0, setR_new_at (Heap.get?_push_of_some _ new)⟩ ?_
        intro t n hm hn hS
        obtain ⟨g, gn, dr, tk, oo⟩ := t
        have e1 : gn = s.gens := hm.gens
        have e2 : dr = s.drawn := hm.drawn
        have e3 : oo = s.os := hm.os
        subst e1; subst e2; subst e3
        rw [len] at hn
        refine wpAny_pure ?_
        show wpAny _ _ (ret Value.none) _ _ _
        refine wpAny_pure ⟨rfl, g, tk, n, rfl, hS, hn, fun b o e => ?_⟩
        have hb := Heap.lt_size e
        refine hm.heap b o ?_ (Heap.get?_push_of_some _ (Heap.get?_push_of_some _ e))
        rw [szz]
        simp only [List.mem_cons, List.not_mem_nil, or_false, not_or]
        exact ⟨Nat.ne_of_lt hb, Nat.ne_of_lt (Nat.lt_succ_of_lt hb)⟩
      · cases r2 with
        | error e => exact q2
        | ok f2 =>
          cases f2 with
          | ret v =>
            obtain ⟨rfl, g, tk, n, rfl, hS, hn, hk⟩ := q2
            repeat (any_goals (first | assumption | wp_step))
            exact k _ _ _ hS hn hk
          | _ => exact q2.elim
    | _ => exact q1.elim
end
end EE
set_option Elab.async false
set_option linter.all false
set_option maxRecDepth 100000
set_option maxHeartbeats 1000000
namespace EE
open PySem PySem.Spec PyProof.Rows L2
section
variable {X : Cx} {ct : Nat → Addr × List Str} {E : XK} {G : Gx} {a : Expr} {da : DE}
theorem pe_lenSetP {ta : TE} {p p2 q pos : Pos} (hc : X.calm = true) (hu : X.A.units + 64 < cLine) (hg : Gl X "len") (hm : X.mg "len" = none) (hg2 : Gl X "set") (hm2 : X.mg "set" = none) (ha : PE X a ta)
    (na : starEach [a] X.env = (false, eval a X.env) :: starEach [] X.env := by rfl) : PE X (.Call (.Name "len" p) [.Call (.Name "set" p2) [a] [] q] [] pos) (tLenSetP X.K ta) := by
  refine ⟨fun pins s σ H Q I h => ?_⟩
  refine Call_ (ld_blt I hg hm PySem.boot_len ?_)
  refine callWith_builtin1 (args_cons ?_ rfl) rfl rfl
  refine Call_ (ld_blt I hg2 hm2 boot_set ?_)
  refine callWith_type1 (args_cons (thn (ha.run pins s σ H _ I h) fun v s1 ⟨x, H1, I1, r1, q1⟩ => args_nil ?_) na) na rfl
  obtain ⟨l, ks, rfl, hq, hk, hf, hnd, q1⟩ := q1
  cases r1
  obtain ⟨its, rv, pl, hz⟩ := I1.list hq
  refine TT.call_bag (P := X.prog) (w := X.w) ks (I1.ok.hd hc) pl.isList (by simpa using refs_of_vals rv) (fun p hp => I1.isT (hk p hp)) hf hnd (by omega) fun h' tk B rs ep t R hlen k => ?_
  refine args_nil ?_
  obtain ⟨o, ho, hex, hd⟩ := R.obj
  have I2 : Inv X pins σ H1 { s1 with heap := h', toks := tk } := I1.kept k
  have hsz : rs.size = B.length := TT.Bag.len (s := { s1 with heap := h', toks := tk }) R
  refine call_len_set ho hex hd (TT.Bag.fits (s := { s1 with heap := h', toks := tk }) R) (by rw [hsz, hlen]; unfold setLim at hf; omega) ⟨.int ks.length, H1, I2.tok _, ⟨_, by rw [hsz, hlen]⟩, q1⟩
theorem xe_lenSetP {p p2 q pos : Pos} (hc : X.calm = true) (hu : X.A.units + 64 < cLine) (hg : Gl X "len") (hm : X.mg "len" = none) (hg2 : Gl X "set") (hm2 : X.mg "set" = none) (ha : PEd X ct E a da)
    (na : starEach [a] X.env = (false, eval a X.env) :: starEach [] X.env := by rfl) : PEd X ct E (.Call (.Name "len" p) [.Call (.Name "set" p2) [a] [] q] [] pos) (dLenSetP da) := by
  obtain ⟨t, h1, h2⟩ := ha
  refine ⟨_, pe_lenSetP hc hu hg hm hg2 hm2 h1 na, fun ρ σ H es eh Q rel h => ?_⟩
  refine h2.bind rel h fun ρ1 H1 x eh1 u e1 rel1 v1 h1 => ?_
  split at h1
  · rename_i n
    split at h1
    · rename_i xs e2
      split at h1
      · rename_i l e3
        split at h1
        · rename_i hl
          simp only [Bool.and_eq_true, decide_eq_true_eq] at hl
          obtain ⟨b, vs, g1, g2, g3⟩ := lst_of rel1.hr e2
          obtain ⟨a', q1, rfl⟩ := vr_ref.mp v1
          rw [g1] at q1; cases q1
          rw [pairsE_eq e3] at g3
          obtain ⟨bs, rfl, k1, k2, k3⟩ := pairs_refs g3
          have hln : bs.length = l.length := by rw [← k1, List.length_map]
          refine ⟨b, bs.map fun c => (c, [(pairAt H1 c).1, (pairAt H1 c).2]), rfl, ?_, fun p hp => ?_, by rw [List.length_map, hln]; exact hl.2, ?_, ?_⟩
          · rw [List.map_map]
            exact g2
          · obtain ⟨c, hc, rfl⟩ := List.mem_map.mp hp
            obtain ⟨i, j, e⟩ := k2 c hc
            refine SqT.of ?_
            unfold pairAt
            rw [e]
            rfl
          · rw [List.map_map]
            have hn := nodupB_iff.mp hl.1
            rw [← k1] at hn
            rw [List.Nodup, List.pairwise_map] at hn ⊢
            refine hn.imp fun {x y} hxy z => hxy ?_
            simp only [Function.comp_apply, List.cons.injEq, and_true] at z
            exact Prod.ext z.1 z.2
          · rw [List.length_map, hln]
            exact h1 ρ1 H1 _ (Ext.refl _ _ _) rel1.hr (vr_int.mpr rfl)
        · exact h1.elim
      · exact h1.elim
    · exact h1.elim
  · exact h1.elim
def rSetL (K : Fg) (w : World) : List V → Hp → VK → Prop := fun xs H Q => ∃ (l : Addr) (ns : List Int), xs = [V.ref l] ∧ SqL K H l (ns.map V.int) ∧ ns.length < 64 ∧ ∀ p n, H p = none → n ≤ ns.length → Q (.ref p) (upd H p (SetO w p (fun j => decide (j ∈ ns)) n))
theorem cr_setL (hc : X.calm = true) : CallR X (.type "set") (rSetL X.K X.w) := by
  intro pins s σ H xs us Q I r h
  obtain ⟨l, ns, rfl, hl, hf, q⟩ := h
  rw [Vals.ref1 r]
  obtain ⟨its, rv, pl, hz⟩ := I.list hl
  refine call_setL ns (I.ok.hd hc) pl.isList (by simpa using rv.ints) (by unfold scanBound; omega) fun g tk n hS hn hk => ?_
  exact ⟨.ref s.heap.objs.size, upd H s.heap.objs.size (SetO X.w s.heap.objs.size (fun j => decide (j ∈ ns)) n), I.laid (t' := tk) hk (Nat.le_refl _) (setO_new hS), rfl, q _ _ (I.hok.fresh (Nat.le_refl _)) hn⟩
def dd : List Int → List Int
  | [] => []
  | x :: r => if x ∈ dd r then dd r else x :: dd r
theorem mem_dd {k : Int} : ∀ {l : List Int}, k ∈ dd l ↔ k ∈ l
  | [] => Iff.rfl
  | x :: r => by
    unfold dd
    have ih := mem_dd (k := k) (l := r)
    split
    · rename_i h
      rw [ih, List.mem_cons]
      constructor
      · exact .inr
      · rintro (rfl | z)
        · exact mem_dd.mp h
        · exact z
    · rw [List.mem_cons, List.mem_cons, ih]
theorem dd_nodup : ∀ l : List Int, (dd l).Nodup
  | [] => List.nodup_nil
  | x :: r => by
    unfold dd
    split
    · exact dd_nodup r
    · rename_i h
      exact List.nodup_cons.mpr ⟨h, dd_nodup r⟩
def usort (l : List Int) : List Int := isort (dd l)
def dSortSet (a : DE) : DE := fun es h => (a es h).bind fun x h1 => match x with
  | .ref n => match lstAt h1 n with
    | some xs => match intsE xs with
      | some l => if l.length < 64 then .ok (.ref h1.length) (h1 ++ [.lst ((usort l).map EV.int)]) else .no
      | none => .no
    | none => .no
  | _ => .no
theorem usort_eq {l m : List Int} (h1 : m.Pairwise (· < ·)) (h2 : ∀ k, k ∈ m ↔ k ∈ l) : m = usort l := by
  refine isort_eq ?_ (h1.imp fun h => Int.le_of_lt h)
  refine (List.perm_ext_iff_of_nodup (h1.imp fun h => Int.ne_of_lt h) (dd_nodup l)).mpr fun k => ?_
  rw [h2, mem_dd]
theorem xe_sortSet {p p2 q pos : Pos} (hc : X.calm = true) (hg : Gl X "sorted") (hm : X.mg "sorted" = none) (hg2 : Gl X "set") (hm2 : X.mg "set" = none) (ha : PEd X ct E a da)
    (na : starEach [a] X.env = (false, eval a X.env) :: starEach [] X.env := by rfl) (nb : starEach [.Call (.Name "set" p2) [a] [] q] X.env = (false, eval (.Call (.Name "set" p2) [a] [] q) X.env) :: starEach [] X.env := by rfl) : PEd X ct E (.Call (.Name "sorted" p) [.Call (.Name "set" p2) [a] [] q] [] pos) (dSortSet da) := by
  obtain ⟨t, h1, h2⟩ := ha
  refine ⟨_, pe_callB (cr_sortedSet hc) hg hm (by decide +kernel) (pa_cons (pe_callTy (cr_setL hc) hg2 hm2 (by decide +kernel) (pa_cons h1 pa_nil na) (he := na)) pa_nil nb) (he := nb), fun ρ σ H es eh Q rel h => ?_⟩
  refine h2.bind rel h fun ρ1 H1 x eh1 u e1 rel1 v1 h1 => ?_
  split at h1
  · rename_i n
    split at h1
    · rename_i xs e2
      split at h1
      · rename_i l e3
        split at h1
        · rename_i hl
          obtain ⟨b, vs, g1, g2, g3⟩ := lst_of rel1.hr e2
          obtain ⟨a', q1, rfl⟩ := vr_ref.mp v1
          rw [g1] at q1; cases q1
          rw [intsE_eq e3] at g3
          have := VRs.of_ints g3
          subst this
          refine ⟨b, l, rfl, g2, hl, fun d n hd hn => ?_⟩
          refine ⟨d, _, n, rfl, upd_same, by omega, fun ns p o1 o2 o3 hp => ?_⟩
          have e4 : ns = usort l := usort_eq o1 fun k => by rw [o2 k, decide_eq_true_eq]
          subst e4
          have es := Ext.side (K := X.K) (ρ := ρ1) (SetO X.w d (fun j => decide (j ∈ l)) n) hd
          refine new_lst (E := E) (rel1.hr.side _ hd) (VRs.ints (usort l)) ?_ p hp
          exact h1.mono es
        · exact h1.elim
      · exact h1.elim
    · exact h1.elim
  · exact h1.elim
def fLenT : DL := fun xs h => match xs with
  | [.ref n] => match mdicAt h n with
    | some (true, kvs) => .ok (.int kvs.length) h
    | _ => .no
  | _ => .no
theorem c_lenT : Cld X ct E (.builtin "len") fLenT := ⟨_, call_len_dT, fun ρ H eh xs as Q hr hx h => by
  unfold fLenT at h
  split at h
  · rename_i n
    split at h
    · rename_i kvs e1
      obtain ⟨p, u, g1, g2, g3, g4⟩ := mdic_of hr e1
      obtain ⟨l, rfl, hk⟩ := g3
      obtain ⟨v, rfl, hv⟩ := vrs_one hx
      obtain ⟨p', q1, rfl⟩ := vr_ref.mp hv
      rw [g1] at q1; cases q1
      exact ⟨p, l, rfl, g2, h ρ H _ (Ext.refl _ _ _) hr (by rw [hk.len]; exact vr_int.mpr rfl)⟩
    · exact h.elim
  · exact h.elim⟩
end
end EE
set_option Elab.async false
set_option linter.all false
set_option maxRecDepth 100000
set_option maxHeartbeats 1000000
namespace EE
open PySem PySem.Spec PyProof.Rows L2
def strsE : List EV → Option (List Str)
  | [] => some []
  | x :: xs => match x, strsE xs with
    | .str s, some ss => some (s :: ss)
    | _, _ => none
theorem strsE_eq : ∀ {xs : List EV} {ss : List Str}, strsE xs = some ss → xs = ss.map EV.str
  | [], ss, h => by cases h; rfl
  | x :: xs, ss, h => by
    unfold strsE at h
    split at h
    · rename_i s ss' e
      cases h
      rw [List.map_cons, strsE_eq e]
    · cases h
theorem strsE_map : ∀ ss : List Str, strsE (ss.map EV.str) = some ss
  | [] => rfl
  | s :: ss => by rw [List.map_cons]; unfold strsE; rw [strsE_map ss]
theorem VRs.strs {K : Fg} {ρ : Rho} {H : Hp} : ∀ (ss : List Str), VRs K ρ H (ss.map EV.str) (ss.map V.str)
  | [] => vrs_nil.mpr rfl
  | s :: ss => vrs_cons.mpr ⟨.str s, ss.map V.str, rfl, vr_str.mpr rfl, VRs.strs ss⟩
theorem VRs.of_strs {K : Fg} {ρ : Rho} {H : Hp} : ∀ {ss : List Str} {vs : List V}, VRs K ρ H (ss.map EV.str) vs → vs = ss.map V.str
  | [], vs, h => vrs_nil.mp h
  | s :: ss, vs, h => by
    obtain ⟨v, r, rfl, h1, h2⟩ := vrs_cons.mp h
    rw [vr_str.mp h1, VRs.of_strs h2]
    rfl
def fCatS : D2 := fun x y h => match x, y with
  | .str i, .str j => if i.length + j.length ≤ 100000 then .ok (.str (i ++ j)) h else .no
  | _, _ => .no
def fStrI : DL := fun xs h => match xs with
  | [.int i] => if i.natAbs.log2 < 1920 then .ok (.str (toString i)) h else .no
  | _ => .no
def fStrS : DL := fun xs h => match xs with
  | [.str a] => .ok (.str a) h
  | _ => .no
abbrev fStr : DL := dLor fStrI fStrS
def fIntS : DL := fun xs h => match xs with
  | [.str a] => match PySem.intText? a with
    | some n => if a.length ≤ 640 then .ok (.int n) h else .no
    | none => .no
  | _ => .no
def fLenS : DL := fun xs h => match xs with
  | [.str a] => if a.length ≤ 100000 then .ok (.int a.length) h else .no
  | _ => .no
def mJoin : EV → DL := fun x xs h => match x, xs with
  | .str a, [.ref n] => match lstAt h n with
    | some ys => match strsE ys with
      | some ss => if (ss.map (·.length)).sum + ss.length * a.length ≤ 16777216 then .ok (.str (Txt.join a ss)) h else .no
      | none => .no
    | none => .no
  | _, _ => .no
def mSplit : EV → DL := fun x xs h => match x, xs with
  | .str a, [.str b] => if (b.length == 0) = false ∧ a.length ≤ 99998 then .ok (.ref h.length) (h ++ [.lst ((Txt.split a b).map EV.str)]) else .no
  | _, _ => .no
def mS0 (g : Str → EV) : EV → DL := fun x xs h => match x, xs with
  | .str a, [] => .ok (g a) h
  | _, _ => .no
def mStarts : EV → DL := fun x xs h => match x, xs with
  | .str a, [.str b] => .ok (.bl (Txt.startswith a b)) h
  | _, _ => .no
def dSM0 (f : EV → DL) (o : DE) : DE := fun es h => (o es h).bind fun x h1 => match x with
  | .str _ => f x [] h1
  | _ => .no
def dSM1 (f : EV → DL) (o a : DE) : DE := fun es h => (o es h).bind fun x h1 => match x with
  | .str _ => (a es h1).bind fun y h2 => f x [y] h2
  | _ => .no
section
variable {X : Cx} {ct : Nat → Addr × List Str} {E : XK} {G : Gx}
theorem o_catS : Opd X ct E (binaryOp .Add) fCatS := ⟨_, op_add_str, fun ρ H eh x y a b Q hr hx hy h => by
  unfold fCatS at h
  split at h
  · rename_i i j
    split at h
    · rename_i hl
      exact ⟨i, j, vr_str.mp hx, vr_str.mp hy, sz5 hl, h ρ H _ (Ext.refl _ _ _) hr (vr_str.mpr rfl)⟩
    · exact h.elim
  · exact h.elim⟩
theorem c_strI : Cld X ct E (.type "str") fStrI := ⟨_, call_str_int, fun ρ H eh xs as Q hr hx h => by
  unfold fStrI at h
  split at h
  · rename_i i
    split at h
    · rename_i hl
      obtain ⟨v, rfl, hv⟩ := vrs_one hx
      rw [vr_int.mp hv]
      exact ⟨i, rfl, hl, h ρ H _ (Ext.refl _ _ _) hr (vr_str.mpr rfl)⟩
    · exact h.elim
  · exact h.elim⟩
theorem c_strS : Cld X ct E (.type "str") fStrS := ⟨_, SkE.call_str_str, fun ρ H eh xs as Q hr hx h => by
  unfold fStrS at h
  split at h
  · rename_i i
    obtain ⟨v, rfl, hv⟩ := vrs_one hx
    rw [vr_str.mp hv]
    exact ⟨i, rfl, h ρ H _ (Ext.refl _ _ _) hr (vr_str.mpr rfl)⟩
  · exact h.elim⟩
theorem c_str : Cld X ct E (.type "str") fStr := c_strI.or c_strS
theorem c_intS : Cld X ct E (.type "int") fIntS := ⟨_, call_int_str, fun ρ H eh xs as Q hr hx h => by
  unfold fIntS at h
  split at h
  · rename_i a
    split at h
    · rename_i n hn
      split at h
      · rename_i hl
        obtain ⟨v, rfl, hv⟩ := vrs_one hx
        rw [vr_str.mp hv]
        exact ⟨a, n, rfl, hn, hl, h ρ H _ (Ext.refl _ _ _) hr (vr_int.mpr rfl)⟩
      · exact h.elim
    · exact h.elim
  · exact h.elim⟩
theorem c_lenS : Cld X ct E (.builtin "len") fLenS := ⟨_, call_len_str, fun ρ H eh xs as Q hr hx h => by
  unfold fLenS at h
  split at h
  · rename_i a
    split at h
    · rename_i hl
      obtain ⟨v, rfl, hv⟩ := vrs_one hx
      rw [vr_str.mp hv]
      exact ⟨a, rfl, sz5 hl, h ρ H _ (Ext.refl _ _ _) hr (vr_int.mpr rfl)⟩
    · exact h.elim
  · exact h.elim⟩
theorem m_join : Mtd X ct E "str.join" mJoin := ⟨_, mt_join, fun ρ H eh x a xs as Q hr hx hxs h => by
  unfold mJoin at h
  split at h
  · rename_i s n
    split at h
    · rename_i ys e1
      split at h
      · rename_i ss e2
        split at h
        · rename_i hl
          obtain ⟨v, rfl, hv⟩ := vrs_one hxs
          obtain ⟨b, vs, g1, g2, g3⟩ := lst_of hr e1
          obtain ⟨b', q1, rfl⟩ := vr_ref.mp hv
          rw [g1] at q1; cases q1
          rw [strsE_eq e2] at g3
          rw [VRs.of_strs g3] at g2
          exact ⟨s, b, ss, vr_str.mp hx, rfl, .inl g2, hl, h ρ H _ (Ext.refl _ _ _) hr (vr_str.mpr rfl)⟩
        · exact h.elim
      · exact h.elim
    · exact h.elim
  · exact h.elim⟩
theorem m_split : Mtd X ct E "str.split" mSplit := ⟨_, mt_split, fun ρ H eh x a xs as Q hr hx hxs h => by
  unfold mSplit at h
  split at h
  · rename_i s t
    split at h
    · rename_i hl
      obtain ⟨v, rfl, hv⟩ := vrs_one hxs
      rw [vr_str.mp hv]
      exact ⟨s, t, vr_str.mp hx, rfl, hl.1, by have := sz5 (show 100000 ≤ 100000 from Nat.le_refl _); omega, new_lst hr (VRs.strs _) h⟩
    · exact h.elim
  · exact h.elim⟩
theorem m_isascii : Mtd X ct E "str.isascii" (mS0 fun a => .bl (Txt.isascii a)) := ⟨_, mt_isascii, fun ρ H eh x a xs as Q hr hx hxs h => by
  unfold mS0 at h
  split at h
  · exact ⟨_, vr_str.mp hx, vrs_nil.mp hxs, trivial, h ρ H _ (Ext.refl _ _ _) hr (vr_bl.mpr rfl)⟩
  · exact h.elim⟩
theorem m_isdigit : Mtd X ct E "str.isdigit" (mS0 fun a => .bl (Txt.isdigit a)) := ⟨_, mt_isdigit, fun ρ H eh x a xs as Q hr hx hxs h => by
  unfold mS0 at h
  split at h
  · exact ⟨_, vr_str.mp hx, vrs_nil.mp hxs, trivial, h ρ H _ (Ext.refl _ _ _) hr (vr_bl.mpr rfl)⟩
  · exact h.elim⟩
theorem m_starts : Mtd X ct E "str.startswith" mStarts := ⟨_, mt_startswith, fun ρ H eh x a xs as Q hr hx hxs h => by
  unfold mStarts at h
  split at h
  · obtain ⟨v, rfl, hv⟩ := vrs_one hxs
    rw [vr_str.mp hv]
    exact ⟨_, _, vr_str.mp hx, rfl, h ρ H _ (Ext.refl _ _ _) hr (vr_bl.mpr rfl)⟩
  · exact h.elim⟩
variable {o e : Expr} {d a : DE}
theorem xe_sm0 {id : String} {name : Str} {apos pos : Pos} {f : EV → DL} (slot : Slot "str" name id) (ty : typeOf (.builtin id) = pure (.type "method_descriptor")) (m : Mtd X ct E id f) (ho : PEd X ct E o d)
    (hbase : attributeBase o name X.env (eval o X.env) = eval o X.env := by rfl) (hline : (apos.endLine == pos.line) = true := by rfl) : PEd X ct E (.Call (.Attribute o name apos) [] [] pos) (dSM0 f d) := by
  obtain ⟨r, m1, m2⟩ := m
  obtain ⟨t, a1, a2⟩ := ho
  refine ⟨_, pe_m0 slot ty m1 a1 hbase hline, fun ρ σ H es eh Q rel h => ?_⟩
  refine a2.bind rel h fun ρ1 H1 x eh1 u e1 rel1 v1 h1 => ?_
  cases x with
  | str s => exact ⟨⟨s, vr_str.mp v1⟩, m2 ρ1 H1 eh1 _ _ [] [] Q rel1.hr v1 (vrs_nil.mpr rfl) h1⟩
  | _ => exact h1.elim
theorem xe_sm1 {id : String} {name : Str} {apos pos : Pos} {f : EV → DL} (slot : Slot "str" name id) (ty : typeOf (.builtin id) = pure (.type "method_descriptor")) (m : Mtd X ct E id f) (ho : PEd X ct E o d) (he : PEd X ct E e a)
    (hs : starEach [e] X.env = [(false, eval e X.env)] := by rfl) (hbase : attributeBase o name X.env (eval o X.env) = eval o X.env := by rfl) (hline : (apos.endLine == pos.line) = true := by rfl) :
    PEd X ct E (.Call (.Attribute o name apos) [e] [] pos) (dSM1 f d a) := by
  obtain ⟨r, m1, m2⟩ := m
  obtain ⟨t, a1, a2⟩ := ho
  obtain ⟨u, b1, b2⟩ := he
  refine ⟨_, pe_m1 slot ty m1 a1 b1 hs hbase hline, fun ρ σ H es eh Q rel h => ?_⟩
  refine a2.bind rel h fun ρ1 H1 x eh1 u e1 rel1 v1 h1 => ?_
  cases x with
  | str s =>
    refine ⟨⟨s, vr_str.mp v1⟩, ?_⟩
    refine b2.bind rel1 h1 fun ρ2 H2 y eh2 w e2 rel2 v2 h2 => ?_
    exact m2 ρ2 H2 eh2 _ _ [y] [w] Q rel2.hr (v1.mono e2) (VRs.one v2) h2
  | _ => exact h1.elim
theorem xe_join {apos pos : Pos} (ho : PEd X ct E o d) (he : PEd X ct E e a) (hs : starEach [e] X.env = [(false, eval e X.env)] := by rfl) (hbase : attributeBase o "join" X.env (eval o X.env) = eval o X.env := by rfl) (hline : (apos.endLine == pos.line) = true := by rfl) :
    PEd X ct E (.Call (.Attribute o "join" apos) [e] [] pos) (dSM1 mJoin d a) := xe_sm1 F.slot_str_join F.type_str_join m_join ho he hs hbase hline
theorem xe_split {apos pos : Pos} (ho : PEd X ct E o d) (he : PEd X ct E e a) (hs : starEach [e] X.env = [(false, eval e X.env)] := by rfl) (hbase : attributeBase o "split" X.env (eval o X.env) = eval o X.env := by rfl) (hline : (apos.endLine == pos.line) = true := by rfl) :
    PEd X ct E (.Call (.Attribute o "split" apos) [e] [] pos) (dSM1 mSplit d a) := xe_sm1 F.slot_str_split F.type_str_split m_split ho he hs hbase hline
theorem xe_starts {apos pos : Pos} (ho : PEd X ct E o d) (he : PEd X ct E e a) (hs : starEach [e] X.env = [(false, eval e X.env)] := by rfl) (hbase : attributeBase o "startswith" X.env (eval o X.env) = eval o X.env := by rfl) (hline : (apos.endLine == pos.line) = true := by rfl) :
    PEd X ct E (.Call (.Attribute o "startswith" apos) [e] [] pos) (dSM1 mStarts d a) := xe_sm1 F.slot_str_startswith F.type_str_startswith m_starts ho he hs hbase hline
abbrev mIsascii : EV → DL := mS0 fun a => .bl (Txt.isascii a)
abbrev mIsdigit : EV → DL := mS0 fun a => .bl (Txt.isdigit a)
theorem xe_isascii {apos pos : Pos} (ho : PEd X ct E o d) (hbase : attributeBase o "isascii" X.env (eval o X.env) = eval o X.env := by rfl) (hline : (apos.endLine == pos.line) = true := by rfl) :
    PEd X ct E (.Call (.Attribute o "isascii" apos) [] [] pos) (dSM0 mIsascii d) := xe_sm0 F.slot_str_isascii F.type_str_isascii m_isascii ho hbase hline
theorem xe_isdigit {apos pos : Pos} (ho : PEd X ct E o d) (hbase : attributeBase o "isdigit" X.env (eval o X.env) = eval o X.env := by rfl) (hline : (apos.endLine == pos.line) = true := by rfl) :
    PEd X ct E (.Call (.Attribute o "isdigit" apos) [] [] pos) (dSM0 mIsdigit d) := xe_sm0 F.slot_str_isdigit F.type_str_isdigit m_isdigit ho hbase hline
end
theorem ltC_no : ∀ {a b : List Nat}, ltCps a b = false → ltCps b a = false → a = b
  | [], [], _, _ => rfl
  | [], _ :: _, h, _ => by cases h
  | _ :: _, [], _, h => by cases h
  | x :: r, y :: t, h, g => by
    simp only [ltCps, Bool.or_eq_false_iff, decide_eq_false_iff_not, Bool.and_eq_false_iff, beq_eq_false_iff_ne] at h g
    have e : x = y := by omega
    subst e
    rw [ltC_no (a := r) (b := t) (by simpa using h.2) (by simpa using g.2)]
theorem ltC_trans : ∀ {a b c : List Nat}, ltCps b a = false → ltCps c b = false → ltCps c a = false
  | [], b, [], _, _ => rfl
  | [], [], _ :: _, _, h => by rfl
  | [], _ :: _, _ :: _, _, _ => rfl
  | _ :: _, [], _, h, _ => by cases h
  | _ :: _, _ :: _, [], _, h => by cases h
  | x :: r, y :: t, z :: u, h, g => by
    simp only [ltCps, Bool.or_eq_false_iff, decide_eq_false_iff_not, Bool.and_eq_false_iff, beq_eq_false_iff_ne] at h g ⊢
    refine ⟨by omega, ?_⟩
    by_cases e : z = x
    · right
      have e1 : y = x := by omega
      have e2 : z = y := by omega
      refine ltC_trans (a := r) (b := t) (c := u) ?_ ?_
      · rcases h.2 with q | q
        · exact absurd e1 q
        · exact q
      · rcases g.2 with q | q
        · exact absurd e2 q
        · exact q
    · exact .inl e
theorem ltC_tot : ∀ (a b : List Nat), ltCps b a = false ∨ ltCps a b = false
  | [], [] => .inl rfl
  | [], _ :: _ => .inl rfl
  | _ :: _, [] => .inr rfl
  | x :: r, y :: t => by
    simp only [ltCps, Bool.or_eq_false_iff, decide_eq_false_iff_not, Bool.and_eq_false_iff, beq_eq_false_iff_ne]
    have := ltC_tot r t
    by_cases e : x = y
    · subst e
      rcases this with q | q
      · exact .inl ⟨by omega, .inr q⟩
      · exact .inr ⟨by omega, .inr q⟩
    · by_cases l : x < y
      · exact .inl ⟨by omega, .inl (by omega)⟩
      · exact .inr ⟨by omega, .inl (by omega)⟩
abbrev leS (a b : Str) : Bool := !ltCps b.cps.toList a.cps.toList
def ssort (l : List Str) : List Str := l.mergeSort leS
theorem leS_trans (a b c : Str) (h : leS a b = true) (g : leS b c = true) : leS a c = true := by
  simp only [leS, Bool.not_eq_true'] at *
  exact ltC_trans h g
theorem leS_tot (a b : Str) : (leS a b || leS b a) = true := by
  simp only [leS, Bool.or_eq_true, Bool.not_eq_true']
  exact ltC_tot _ _
theorem leS_anti {a b : Str} (h : leS a b = true) (g : leS b a = true) : a = b := by
  simp only [leS, Bool.not_eq_true'] at *
  exact TL.ext_tl (ltC_no g h)
theorem ssort_perm (l : List Str) : (ssort l).Perm l := List.mergeSort_perm l _
theorem ssort_pw (l : List Str) : (ssort l).Pairwise fun a b => leS a b = true := List.pairwise_mergeSort leS_trans leS_tot l
theorem rising_pw : ∀ (r : List Str) (p : Str), risingS p r = true → (p :: r).Pairwise fun a b => leS a b = true
  | [], p, _ => List.pairwise_singleton _ _
  | x :: r, p, h => by
    simp only [risingS, Bool.and_eq_true] at h
    have ih := rising_pw r x h.2
    refine List.pairwise_cons.mpr ⟨fun y hy => ?_, ih⟩
    rcases List.mem_cons.mp hy with e | hy
    · subst e; exact h.1
    · exact leS_trans _ _ _ h.1 ((List.pairwise_cons.mp ih).1 y hy)
theorem ssort_eq {l m : List Str} (h : m.Perm l) (hs : sortedS m = true) : m = ssort l := by
  refine List.Perm.eq_of_pairwise (le := fun a b => leS a b = true) (fun a b _ _ h1 h2 => leS_anti h1 h2) ?_ (ssort_pw l) (h.trans (ssort_perm l).symm)
  cases m with
  | nil => exact .nil
  | cons x r => exact rising_pw r x hs
def fSortK : DL := fun xs h => match xs with
  | [.ref n] => match dicAt h n with
    | some (false, kvs) => match strsE (kvs.map (·.1)) with
      | some l => if l.length < 64 then .ok (.ref h.length) (h ++ [.lst ((ssort l).map EV.str)]) else .no
      | none => .no
    | _ => .no
  | _ => .no
theorem keyOf_strs : ∀ {xs : List EV} {l : List Str} {ks : List Key}, strsE xs = some l → xs.map keyOf = ks.map some → ks = l.map Sum.inr
  | xs, l, ks, h, e => by
    rw [strsE_eq h, List.map_map] at e
    have : (l.map (Sum.inr : Str → Key)).map some = ks.map some := by
      rw [← e, List.map_map]
      rfl
    exact (List.map_inj_right (fun _ _ => Option.some.inj)).mp this.symm
section
variable {X : Cx} {ct : Nat → Addr × List Str} {E : XK} {G : Gx}
theorem c_sortK (hc : X.calm = true) : Cld X ct E (.builtin "sorted") fSortK := ⟨_, call_sortedD hc, fun ρ H eh xs as Q hr hx h => by
  unfold fSortK at h
  split at h
  · rename_i n
    split at h
    · rename_i kvs e1
      split at h
      · rename_i l e2
        split at h
        · rename_i hl
          obtain ⟨v, rfl, hv⟩ := vrs_one hx
          obtain ⟨a, u, g1, g2, g3⟩ := dic_of hr e1
          obtain ⟨a', q1, rfl⟩ := vr_ref.mp hv
          rw [g1] at q1; cases q1
          obtain ⟨m, rfl, hk⟩ := g3
          have hkeys : m.map (·.1) = l.map Sum.inr := by
            refine keyOf_strs e2 ?_
            rw [List.map_map]
            have := hk.keys
            rw [List.map_map]
            exact this
          refine ⟨a, m, l, rfl, g2, hkeys, hl, fun ys p h1 h2 hp => ?_⟩
          rw [ssort_eq h1 h2]
          exact new_lst hr (VRs.strs _) h p hp
        · exact h.elim
      · exact h.elim
    · exact h.elim
  · exact h.elim⟩
end
end EE
set_option Elab.async false
set_option linter.all false
set_option maxRecDepth 100000
set_option maxHeartbeats 1000000
namespace EE
open PySem PySem.Spec PyProof.Rows L2
def dItE (a : DA) : DI := fun es h => (a es h).bind fun xs h1 => match xs with
  | [.ref n] => match lstAt h1 n with
    | some _ => .ok ⟨some n, [], fun i x => .tup [.int i, x]⟩ h1
    | none => .no
  | _ => .no
section
variable {X : Cx} {ct : Nat → Addr × List Str} {E : XK} {G : Gx}
theorem jr_enum {ρ : Rho} {H : Hp} {n : Nat} {a : Addr} (h : adr ρ n = some a) : JR G ρ H ⟨some n, [], fun i x => .tup [.int i, x]⟩ (Ite G.K a) := fun ρ' H' eh xs e hr hc => by
  obtain ⟨a', vs, g1, g2, g3⟩ := lst_of hr (show lstAt eh n = some xs from hc)
  rw [e.get h] at g1; cases g1
  refine ⟨fun i x hx => ?_, fun i hx => ⟨vs, g2, ?_⟩⟩
  · obtain ⟨v, h1, h2⟩ := g3.get hx
    refine ⟨⟨vs, v, g2, h1⟩, fun y H2 hy => ?_⟩
    obtain ⟨T, z, rfl, hT, rfl, hy⟩ := hy
    have := hy vs g2
    rw [h1] at this
    cases this
    have e3 : Ext G.K ρ' ρ' H' (upd H' T (.tup [.int (i : Nat), v])) := Ext.side _ hT
    exact ⟨e3, hr.side _ hT, vr_tup.mpr ⟨T, _, rfl, upd_same, vrs_cons.mpr ⟨_, _, rfl, vr_int.mpr rfl, VRs.one (VR.mono e3 _ _ h2)⟩⟩⟩
  · rw [← g3.length]
    exact List.getElem?_eq_none_iff.mp hx
theorem snd_itE {tl : TA} {a : DA} (ha : SndA G E tl a) : SndI G E (iEnum G.K tl) (dItE a) := fun ρ σ H es eh Q rel h => by
  refine ha.bind rel h fun ρ1 H1 xs eh1 us e1 rel1 v1 h1 => ?_
  split at h1
  · rename_i n
    split at h1
    · rename_i ys e2
      obtain ⟨v, rfl, hv⟩ := vrs_one v1
      obtain ⟨a1, vs, g1, g2, g3⟩ := lst_of rel1.hr e2
      obtain ⟨a', q1, rfl⟩ := vr_ref.mp hv
      rw [g1] at q1; cases q1
      exact ⟨a1, vs, rfl, g2, h1 ρ1 H1 _ (Ext.refl _ _ _) rel1.hr (jr_enum g1)⟩
    · exact h1.elim
  · exact h1.elim
theorem xi_enum {elts : List Expr} {kk : Nat} {tpos p pos : Pos} {e : Expr} {d : DA} (hg : Gl X "enumerate") (hm : X.mg "enumerate" = none) (ha : PAd X ct E [e] d) (hs : starEach [e] X.env = [(false, eval e X.env)] := by rfl) :
    PId X ct E (.Tuple elts kk tpos) (.Call (.Name "enumerate" p) [e] [] pos) (dItE d) := by
  obtain ⟨t, h1, h2⟩ := ha
  exact ⟨_, pi_enum hg hm h1 hs, snd_itE h2⟩
end
section
variable {prog : Program} {w : World} {A : Around} {E : Value → Shared → Prop} {s : Shared}
theorem draw_list {it t : Addr} {items : Array Value} (hne : t ≠ it) : ∀ (n i : Nat) (s : Shared) (Q : List Value → Shared → Prop), s.heap.IsListIter it t i → s.heap.IsList t items → i + n ≤ items.size →
    (∀ h', h'.IsListIter it t (i + n) → Heap.SameBut it s.heap h' → Q ((items.toList.drop i).take n) { s with heap := h' }) → wpAny (model prog w) A (draw (.ref it) n) Q E s
  | 0, i, s, Q, hit, _, _, hQ => by
    show wpAny _ _ (pure []) Q E s
    exact wpAny_pure (by simpa using hQ s.heap hit (Heap.SameBut.refl ..))
  | n + 1, i, s, Q, hit, ht, hle, hQ => by
    have hlt : i < items.size := by omega
    show wpAny _ _ (pyNext (.ref it) >>= _) Q E s
    refine wpAny_bind (wpAny_pyNext_list_item hit ht (x := items[i]) (by simp [hlt]) fun h₁ hit₁ hs₁ => ?_)
    refine wpAny_bind (wpAny_holding (draw_list hne n (i + 1) _ _ hit₁ (ht.extBut hs₁.extBut hne) (by omega) fun h₂ hit₂ hs₂ => wpAny_pure ?_))
    have hd : items.toList.drop i = items[i] :: items.toList.drop (i + 1) := by simp [List.drop_eq_getElem_cons, hlt]
    have := hQ h₂ (by rw [show i + (n + 1) = i + 1 + n by omega]; exact hit₂) (hs₁.trans hs₂)
    rw [hd, List.take_succ_cons] at this
    exact this
theorem walks_restL (hh : A.handled = none) (Ia t : Addr) (ne : t ≠ Ia) (items : Array Value) (i0 : Nat) (h0 : i0 ≤ items.size) :
    Walks prog w A Ia [Ia, t] [Ia] (items.size - i0) (fun j v => items[i0 + j]? = some v) (fun j h => h.IsListIter Ia t (i0 + j) ∧ h.IsList t items) where
  sub := fun b hb => by
    rw [List.mem_singleton.mp hb]
    exact List.mem_cons_self
  frame := fun j h h' st k => ⟨st.1.at fun o e => k Ia (by simp) o e, st.2.at fun o e => k t (by simp) o e⟩
  item := fun j s Q E hj st hQ => by
    have hlt : i0 + j < items.size := by omega
    refine wpAny_pyNext_list_item st.1 st.2 (x := items[i0 + j]) (by simp [hlt]) fun h1 hit hs => ?_
    exact hQ _ h1 s.toks (by simp [hlt]) ⟨hit, st.2.extBut hs.extBut ne⟩ fun b o hb e => hs.extBut b o (fun z => hb (by simp [z])) e
  done := fun s Q E st hQ => wpAny_pyNext_list_end hh st.1 st.2 (Array.getElem?_eq_none (by omega)) fun h1 he => hQ h1 s.toks fun b o hb e => he b o (fun z => hb (by simp [z])) e
  self := fun j s Q E st h => wpAny_pyIter_listiter st.1 h
theorem unpack_restL {t : Addr} {items : List Value} {i0 : Nat} {Q : List Value → Shared → Prop} (hh : A.handled = none) (ht : s.heap.IsList t items.toArray) (h0 : i0 ≤ items.length) (hz : items.length ≤ sizeLine)
    (hQ : ∀ (h2 : Heap) (tk : Nat), (∀ b o, s.heap.get? b = some o → h2.get? b = some o) → Q (items.take i0 ++ [.ref h2.objs.size]) { s with heap := h2.push { cls := .type "list", data := .seq (items.drop i0).toArray }, toks := tk }) :
    wpAny (model prog w) A (unpackItems (.ref t) (i0 + 1) (some i0)) Q E s := by
  have hlt : t ≠ s.heap.objs.size := by
    obtain ⟨o, ho, _⟩ := ht
    exact Nat.ne_of_lt (Heap.lt_size ho)
  unfold unpackItems
  refine wpAny_bind (m := notIterableAtAll _) ?_
  unfold notIterableAtAll
  refine wpAny_bind (wpAny_specialOf ht.typeIs slot_list_iter.lookup (wpAny_pure ?_))
  simp only [Bool.false_eq_true, if_false]
  refine wpAny_bind (wpAny_holding (wpAny_pyIter_list ht ?_))
  refine wpAny_bind (wpAny_holding (draw_list hlt i0 0 _ _ ⟨_, Heap.get?_push_size _ rfl, rfl, rfl⟩ (ht.at fun o e => Heap.get?_push_of_some _ e) (by simpa using h0) fun h1 hit1 sb1 => ?_))
  have e1 : List.take i0 (List.drop 0 items.toArray.toList) = items.take i0 := by simp
  rw [e1, if_neg (by rw [List.length_take]; omega)]
  have ht1 : h1.IsList t items.toArray := (ht.at fun o e => Heap.get?_push_of_some _ e).extBut sb1.extBut hlt
  rw [Nat.zero_add] at hit1
  have hsz : s.heap.objs.size < h1.objs.size := by
    obtain ⟨o, ho, _⟩ := hit1
    exact Heap.lt_size ho
  refine wpAny_bind (wpAny_holding (wpAny_collect_iter (T := "list_iterator") (by simp) (walks_restL (A := A.in1) hh s.heap.objs.size t hlt items.toArray i0 (by simpa using h0)).toS (fun j s' st => ?_) ⟨by rw [Nat.add_zero]; exact hit1, ht1⟩ (fun b hb => ?_) (by simp) (fun s2 acc hm hacc => ?_) (by simp; omega)))
  · obtain ⟨⟨o, ho, hc, _⟩, _⟩ := st
    exact ⟨o, ho, hc⟩
  · rcases List.mem_cons.mp hb with e | hb
    · rw [e]
      exact hsz
    · rw [List.mem_singleton.mp hb]
      obtain ⟨o, ho, _⟩ := ht1
      exact Heap.lt_size ho
  · have ea : acc.toList = items.drop i0 := by
      have hl : acc.size = items.length - i0 := by simpa using hacc.1
      apply List.ext_getElem?
      intro j
      rw [List.getElem?_drop]
      cases hj : acc.toList[j]? with
      | none =>
        have := List.getElem?_eq_none_iff.mp hj
        rw [Array.length_toList] at this
        exact (List.getElem?_eq_none (by omega)).symm
      | some v =>
        have := hacc.2 j v (by rw [← Array.getElem?_toList]; exact hj)
        simpa using this.symm
    rw [ea, show i0 + 1 - 1 - i0 = 0 by omega, if_neg (by omega), Nat.sub_zero, List.take_length, List.drop_length]
    simp only [List.append_nil]
    refine wpAny_bind (wpAny_newList (wpAny_pure ?_) (by rw [List.length_drop]; omega))
    have hk : ∀ b o, s.heap.get? b = some o → s2.heap.get? b = some o := fun b o e => by
      have n : b ≠ s.heap.objs.size := Nat.ne_of_lt (Heap.lt_size e)
      exact hm.heap b o (by simpa using n) ((sb1.2 b n).trans (Heap.get?_push_of_some _ e))
    rw [Moved.eq_with hm]
    exact hQ _ _ hk
end
def gStarL (K : Fg) (i0 : Nat) (t : TGs) : TG := fun v σ H Q => ∃ a xs, v = V.ref a ∧ SqL K H a xs ∧ i0 ≤ xs.length ∧ ∀ l, H l = none → t (xs.take i0 ++ [.ref l]) σ (upd H l (.lst (xs.drop i0))) Q
def dGStarL (i0 : Nat) (r : DGs) : DG := fun x es h => match x with
  | .ref n => match lstAt h n with
    | some xs => if i0 ≤ xs.length then r (xs.take i0 ++ [.ref h.length]) es (h ++ [.lst (xs.drop i0)]) else .no
    | none => .no
  | _ => .no
section
variable {X : Cx} {ct : Nat → Addr × List Str} {E : XK} {G : Gx} {e : Expr} {es : List Expr} {pos p : Pos}
theorem pg_tupStarL {k i0 : Nat} {t : TGs} (hc : X.calm = true) (h : PGs X es t) (hn : (assignEach es X.env).length = i0 + 1 := by rfl) (hst : (assignEach es X.env).findIdx? (·.1) = some i0 := by rfl) : PG X (.Tuple es k pos) (gStarL X.K i0 t) := by
  refine ⟨fun pins s σ H v u Q I r hw => ?_⟩
  obtain ⟨a, xs, rfl, hq, hl, hw⟩ := hw
  cases r
  obtain ⟨its, rv, ht, hz⟩ := I.list hq
  have hlen := rv.length
  rw [assign_Tuple]
  refine wpAny_bind (wpAny_standAt ?_)
  unfold unpack
  rw [hn, hst]
  refine wpAny_bind (wpAny_holding (unpack_restL (I.ok.hd hc) ht.isList (by omega) (by omega) fun h2 tk hk => ?_))
  have I2 : L2.Inv X pins σ H { s with heap := h2, toks := tk } := I.kept hk
  have hf : H h2.objs.size = none := I2.hok.fresh (Nat.le_refl _)
  have new : ObjOk X.prog X.w (upd H h2.objs.size (.lst (xs.drop i0))) (h2.push { cls := .type "list", data := .seq (its.drop i0).toArray }) h2.objs.size (.lst (xs.drop i0)) :=
    ⟨by rw [List.length_drop]; omega, its.drop i0, 0, vals_drop rv i0, Heap.get?_push_size _ rfl⟩
  have I3 : L2.Inv X pins σ (upd H h2.objs.size (.lst (xs.drop i0))) { s with heap := h2.push { cls := .type "list", data := .seq (its.drop i0).toArray }, toks := tk } :=
    I2.laid (t' := tk) (fun b o e => Heap.get?_push_of_some _ e) (Nat.le_refl _) new
  exact h.run pins _ σ _ _ _ Q I3 ((vals_take rv i0).append (.cons (a := V.ref h2.objs.size) rfl .nil)) (hw _ hf)
theorem snd_gstarL {i0 : Nat} {u : TGs} {ds : DGs} (h2 : SndGs G E u ds) : SndG G E (gStarL G.K i0 u) (dGStarL i0 ds) := fun ρ σ H es eh x us Q rel hx h => by
  unfold dGStarL at h
  split at h
  · rename_i n
    split at h
    · rename_i xs e1
      split at h
      · rename_i hl
        obtain ⟨a, vs, g1, g2, g3⟩ := lst_of rel.hr e1
        obtain ⟨a', q1, rfl⟩ := vr_ref.mp hx
        rw [g1] at q1; cases q1
        refine ⟨a, vs, rfl, g2, by rw [← g3.length]; exact hl, fun l hn => ?_⟩
        have e1 : Ext G.K ρ (ρ ++ [(true, l)]) H (upd H l (.lst (vs.drop i0))) := Ext.alloc _ hn
        have hr := rel.hr.alloc (u := .lst (vs.drop i0)) (o := .lst (xs.drop i0)) hn rfl ⟨_, upd_same, VRs.mono e1 _ _ (g3.drop i0)⟩
        exact h2 (ρ ++ [(true, l)]) σ _ es _ _ _ Q (rel.ext e1 hr) ((VRs.mono e1 _ _ (g3.take i0)).append (VRs.one (vr_ref.mpr ⟨l, last_get rel.hr.len, rfl⟩))) (h.mono e1)
      · exact h.elim
    · exact h.elim
  · exact h.elim
theorem xg_starL {k i0 : Nat} {d : DGs} (hc : X.calm = true) (h : PGsd X ct E es d) (hn : (assignEach es X.env).length = i0 + 1 := by rfl) (hst : (assignEach es X.env).findIdx? (·.1) = some i0 := by rfl) : PGd X ct E (.Tuple es k pos) (dGStarL i0 d) := by
  obtain ⟨t, a1, a2⟩ := h
  exact ⟨_, pg_tupStarL hc a1 hn hst, snd_gstarL a2⟩
def dStarA (a : DE) (r : DA) : DA := fun es h => (a es h).bind fun x h1 => match itemsE h1 x with
  | some ys => (r es h1).bind fun xs h2 => .ok (ys ++ xs) h2
  | none => .no
theorem xa_star {d : DE} {dr : DA} (he : PEd X ct E e d) (hr : PAd X ct E es dr) (hs : starEach (.Starred e p :: es) X.env = (true, eval e X.env) :: starEach es X.env := by rfl) : PAd X ct E (.Starred e p :: es) (dStarA d dr) := by
  obtain ⟨t, a1, a2⟩ := he
  obtain ⟨u, b1, b2⟩ := hr
  refine ⟨_, StX.pa_star a1 b1 hs, fun ρ σ H es eh Q rel h => ?_⟩
  refine a2.bind rel h fun ρ1 H1 x eh1 v e1 rel1 v1 h1 => ?_
  split at h1
  · rename_i ys hys
    obtain ⟨b, vs, rfl, j1, j2⟩ := items_of rel1.hr v1 hys
    refine ⟨b, vs, rfl, j1, ?_⟩
    refine b2.bind rel1 h1 fun ρ2 H2 xs eh2 us e2 rel2 v2 h2 => ?_
    exact h2 ρ2 H2 _ (Ext.refl _ _ _) rel2.hr ((VRs.mono e2 _ _ j2).append v2)
  · exact h1.elim
def fSlT : EV → Option Int → Option Int → EH → Res EV := fun x lo hi h => match x with
  | .tup xs => if ¬ (HT.sIx xs.length 0 lo = 0 ∧ HT.sIx xs.length xs.length hi = xs.length) then .ok (.tup (cutE xs lo hi)) h else .no
  | _ => .no
theorem xe_sliceT {a : Expr} {lo hi : Option Expr} {p2 pos : Pos} {da : DE} {dl dh : ES → EH → Res (Option Int)} (ha : PEd X ct E a da) (hl : POd X ct E lo dl) (hh : POd X ct E hi dh) : PEd X ct E (.Subscript a (.Slice lo hi none p2) pos) (dSl fSlT da dl dh) := by
  obtain ⟨t, h1, h2⟩ := ha
  obtain ⟨tl, l1, l2⟩ := hl
  obtain ⟨th, k1, k2⟩ := hh
  refine ⟨_, pe_slice sl_tup h1 l1 k1, fun ρ σ H es eh Q rel h => ?_⟩
  refine h2.bind rel h fun ρ1 H1 x eh1 u e1 rel1 v1 h1 => ?_
  refine l2.bind rel1 h1 fun ρ2 H2 l eh2 l' e2 rel2 v2 h2 => ?_
  refine k2.bind rel2 h2 fun ρ3 H3 k eh3 k' e3 rel3 v3 h3 => ?_
  cases v2
  cases v3
  have v1' := (v1.mono e2).mono e3
  unfold fSlT at h3
  split at h3
  · rename_i xs
    split at h3
    · rename_i hw
      obtain ⟨a1, vs, rfl, g2, g3⟩ := vr_tup.mp v1'
      refine ⟨a1, vs, rfl, SqT.of g2, by rw [← g3.length]; exact hw, fun p hp => ?_⟩
      have e4 : Ext X.K ρ3 ρ3 H3 (upd H3 p (.tup (cutV vs l k))) := Ext.side _ hp
      refine h3 ρ3 _ _ e4 (rel3.hr.side _ hp) (vr_tup.mpr ⟨p, _, rfl, upd_same, VRs.mono e4 _ _ ?_⟩)
      unfold cutE cutV
      rw [← g3.length]
      exact (g3.drop _).take _
    · exact h3.elim
  · exact h3.elim
end
def entOf (e : DictEntry) : Option (Str × Int × Int) := match e.key, e.val with
  | .str x _, .int i _ => some (x, e.hash, i)
  | _, _ => none
def tabW (K : PySem.W.Frag) (a : Addr) : Option (List (Option (Str × Int × Int))) := match K.lookup a with
  | some ⟨.type c, none, .dict es _, sl⟩ => (match decide (c = "dict") && (sl.isEmpty && !(a == sysModules)) with
    | true => some (es.toList.map entOf)
    | false => none)
  | _ => none
def tabIn (P : Params) (ks : List (Str × Int)) : List (Option (Str × Int × Int)) := ks.map fun k => some (k.1, PyData.keyHash P k.1, k.2)
def KTab (K : Fg) (w : World) (a : Addr) (tab : List (Str × Int)) : Prop := tabW K a = some (tabIn w.params tab)
theorem ent_lit {P : Params} : ∀ {l : List DictEntry} {ks : List (Str × Int)}, l.map entOf = tabIn P ks → PySem.W.KeysLit P l
  | [], _, _ => trivial
  | e :: r, [], h => by cases h
  | e :: r, k :: ks, h => by
    have h1 : entOf e :: r.map entOf = some (k.1, PyData.keyHash P k.1, k.2) :: tabIn P ks := h
    injection h1 with h2 h3
    refine ⟨?_, ent_lit h3⟩
    unfold entOf at h2
    split at h2
    · rename_i x t i t' q1 q2
      have h4 := Option.some.inj h2
      obtain ⟨h5, h6⟩ := Prod.mk.inj h4
      obtain ⟨h6, h7⟩ := Prod.mk.inj h6
      exact ⟨x, t, q1, by rw [h6, h5]⟩
    · cases h2
theorem ent_find {P : Params} (x : Str) : ∀ {l : List DictEntry} {ks : List (Str × Int)}, l.map entOf = tabIn P ks →
    match ks.lookup x with
    | some i => ∃ e t, l.find? (·.key.isStr x) = some e ∧ e.val = .int i t
    | none => l.find? (·.key.isStr x) = none ∧ l.any (·.refKey) = false
  | [], [], _ => ⟨rfl, rfl⟩
  | [], _ :: _, h => by cases h
  | e :: r, [], h => by cases h
  | e :: r, k :: ks, h => by
    have h1 : entOf e :: r.map entOf = some (k.1, PyData.keyHash P k.1, k.2) :: tabIn P ks := h
    injection h1 with h2 h3
    have ih := ent_find x h3
    unfold entOf at h2
    split at h2
    · rename_i y t i t' q1 q2
      have h4 := Option.some.inj h2
      obtain ⟨h5, h6⟩ := Prod.mk.inj h4
      obtain ⟨h6, h7⟩ := Prod.mk.inj h6
      obtain ⟨ky, ki⟩ := k
      simp only at h5 h7
      subst h5 h7
      by_cases hx : x = y
      · subst hx
        rw [List.lookup_cons_self]
        refine ⟨e, t', ?_, q2⟩
        rw [List.find?_cons_of_pos]
        rw [q1]
        exact beq_self_eq_true x
      · have hb : (x == y) = false := beq_eq_false_iff_ne.mpr hx
        have hk : e.key.isStr x = false := by
          rw [q1]
          show (y == x) = false
          exact beq_eq_false_iff_ne.mpr fun z => hx z.symm
        rw [List.lookup_cons, hb]
        simp only
        cases hl : ks.lookup x with
        | some j =>
          rw [hl] at ih
          obtain ⟨e', t2, f1, f2⟩ := ih
          exact ⟨e', t2, by rw [List.find?_cons_of_neg (by rw [hk]; simp)]; exact f1, f2⟩
        | none =>
          rw [hl] at ih
          refine ⟨by rw [List.find?_cons_of_neg (by rw [hk]; simp)]; exact ih.1, ?_⟩
          rw [List.any_cons, ih.2, Bool.or_false]
          unfold DictEntry.refKey
          rw [q1]
    · cases h2
theorem ktab_ok {K : Fg} {w : World} {a : Addr} {tab : List (Str × Int)} (h : KTab K w a tab) : ∃ es n, K.lookup a = some ⟨.type "dict", none, .dict es n, #[]⟩ ∧ PySem.W.KeysLit w.params es.toList ∧ (a == sysModules) = false ∧
    ∀ x, match tab.lookup x with
      | some i => ∃ t, PySem.W.nsIn K a x = some (some (.int i t))
      | none => PySem.W.nsIn K a x = some none := by
  unfold KTab tabW at h
  split at h
  · rename_i c es n sl q
    split at h
    · rename_i z
      simp only [Bool.and_eq_true, decide_eq_true_eq, Bool.not_eq_true'] at z
      obtain ⟨rfl, z2, z3⟩ := z
      have e2 : sl = #[] := Array.isEmpty_iff.mp z2
      subst e2
      have hm := Option.some.inj h
      refine ⟨es, n, q, ent_lit hm, z3, fun x => ?_⟩
      have f := ent_find x hm
      have hn : PySem.W.nsIn K a x = (match es.toList.find? (·.key.isStr x) with
        | some e => some (some e.val)
        | none => if es.toList.any (·.refKey) then none else some none) := by
        unfold PySem.W.nsIn
        rw [q]
        rfl
      cases hl : tab.lookup x with
      | some i =>
        rw [hl] at f
        obtain ⟨e, t, f1, f2⟩ := f
        refine ⟨t, ?_⟩
        rw [hn, f1]
        simp only
        rw [f2]
      | none =>
        rw [hl] at f
        show PySem.W.nsIn K a x = some none
        rw [hn, f.1]
        simp only
        rw [f.2]
        rfl
    · cases h
  · cases h
theorem ktab_of {K : Fg} {w : World} {a : Addr} {tab : List (Str × Int)} {es : Array DictEntry} {n : Nat} (hl : K.lookup a = some ⟨.type "dict", none, .dict es n, #[]⟩) (hs : (a == sysModules) = false) (he : es.toList.map entOf = tabIn w.params tab) : KTab K w a tab := by
  unfold KTab tabW
  rw [hl]
  simp only [decide_true, Array.isEmpty_empty, hs, Bool.not_false, Bool.and_self, he]
def tKGet (tab : List (Str × Int)) (te : TE) : TE := fun σ H Q => te σ H fun y H1 => ∃ x, y = .str x ∧ Q (match tab.lookup x with
  | some i => .int i
  | none => .non) H1
def dKGet (tab : List (Str × Int)) (a : DE) : DE := fun es h => (a es h).bind fun x h1 => match x with
  | .str s => .ok (match tab.lookup s with
    | some i => .int i
    | none => .non) h1
  | _ => .no
section
variable {X : Cx} {ct : Nat → Addr × List Str} {E : XK} {G : Gx} {e : Expr} {p apos cpos : Pos} {x : Str} {tab : List (Str × Int)}
theorem pe_kget {te : TE} (hg : Gl X x) (hm : ∃ a, X.mg x = some (.ref a) ∧ KTab X.K X.w a tab) (he : PE X e te) (hd : (x == ("__debug__" : Str)) = false := by decide)
    (hs : starEach [e] X.env = [(false, eval e X.env)] := by rfl) (hbase : attributeBase (.Name x p) "get" X.env (eval (.Name x p) X.env) = eval (.Name x p) X.env := by rfl) (hline : (apos.endLine == cpos.line) = true := by rfl) :
    PE X (.Call (.Attribute (.Name x p) "get" apos) [e] [] cpos) (tKGet tab te) := by
  obtain ⟨a, hm, hk⟩ := hm
  obtain ⟨es, n, hl, hlit, low, hf⟩ := ktab_ok hk
  refine ⟨fun pins s σ H Q I h => ?_⟩
  have hn : PE X (.Name x p) (tC (.ref a)) := pe_glob (v := .ref a) hg hm rfl hd
  refine PySem.Call_method1 hbase hs hline (thn (hn.run pins s σ H (fun v H1 => v = .ref a ∧ tKGet tab te σ H1 Q) I (show V.ref a = .ref a ∧ tKGet tab te σ H Q from ⟨rfl, h⟩)) fun v s1 ⟨y, H1, I1, r1, q0, q1⟩ => ?_)
  subst q0
  obtain rfl : v = Value.ref a := r1
  have ho := I1.kIn _ _ hl
  have hty : s1.TypeIs (.ref a) "dict" := ⟨_, ho, rfl⟩
  refine ⟨"dict", _, PySem.F.plainAttrs_dict, PySem.F.slot_dict_get, PySem.F.type_dict_get, hty, (fun b q => by cases q; exact ⟨_, ho, rfl⟩), Calls.callWith_builtin rfl (Calls.evalArgs_plain (Calls.spliced_cons ?_))⟩
  refine thn (he.run pins s1 σ H1 _ I1 q1) fun u s2 ⟨y, H2, I2, r2, z, ey, q2⟩ => Calls.spliced_nil ?_
  subst ey
  obtain ⟨t, rfl⟩ := (show ∃ t, u = Value.str z t from r2)
  have hm' := PySem.W.mapOf_K (prog := X.prog) (w := X.w) I2.kIn hl hlit
  refine call_meetsIn PySem.F.slot_dict_get hm'.typeIs PySem.F.entry_dict_get (PySem.F.args_dict_get_2 _ _) (meets_dict_get (strKind X.prog X.w) a (strKind_is X.prog X.w z t) low) ⟨_, hm', ?_⟩
  have hz := hf z
  cases hz1 : tab.lookup z with
  | some i =>
    rw [hz1] at hz q2
    obtain ⟨t', e1⟩ := hz
    rw [PySem.W.find_K hl e1]
    exact ⟨.int i, H2, I2.tok _, ⟨t', rfl⟩, q2⟩
  | none =>
    rw [hz1] at hz q2
    rw [PySem.W.find_K hl hz]
    exact ⟨.non, H2, I2.tok _, rfl, q2⟩
theorem xe_kget {d : DE} (hg : Gl X x) (hm : ∃ a, X.mg x = some (.ref a) ∧ KTab X.K X.w a tab) (he : PEd X ct E e d) (hd : (x == ("__debug__" : Str)) = false := by decide)
    (hs : starEach [e] X.env = [(false, eval e X.env)] := by rfl) (hbase : attributeBase (.Name x p) "get" X.env (eval (.Name x p) X.env) = eval (.Name x p) X.env := by rfl) (hline : (apos.endLine == cpos.line) = true := by rfl) :
    PEd X ct E (.Call (.Attribute (.Name x p) "get" apos) [e] [] cpos) (dKGet tab d) := by
  obtain ⟨t, a1, a2⟩ := he
  refine ⟨_, pe_kget hg hm a1 hd hs hbase hline, fun ρ σ H es eh Q rel h => ?_⟩
  refine a2.bind rel h fun ρ1 H1 y eh1 u e1 rel1 v1 h1 => ?_
  split at h1
  · rename_i s
    refine ⟨s, vr_str.mp v1, h1 ρ1 H1 _ (Ext.refl _ _ _) rel1.hr ?_⟩
    cases tab.lookup s with
    | some i => exact vr_int.mpr rfl
    | none => exact vr_non.mpr rfl
  · exact h1.elim
end
end EE
set_option Elab.async false
set_option linter.all false
set_option maxRecDepth 100000
set_option maxHeartbeats 1000000
namespace EE
open PySem PySem.Spec PyProof.Rows L2
def spD1 (G : Gx) (f : DL) : Sp := fun vs H Q E => ∃ ρ xs eh, VRs G.K ρ H xs vs ∧ HR G ρ H eh ∧ wr G (VR G.K) ρ H (f xs eh) Q E
def dCallX (f : DL) (a : DA) : DE := fun es h => (a es h).bind fun xs h1 => f xs h1
def dRaise (c : Nat) : DS := fun _ h => .er ⟨c, []⟩ h
abbrev TkE (X : Cx) (E : XK) : Prop := Takes X (fun cls d _ H => E cls d H)
structure XcD (K : Fg) (mg : Str → Option Value) (cn : Addr × List Str) (x : Str) : Prop where
  own : cn.2 = []
  ex : PySem.W.excIn K cn.1 [.type "ValueError", .type "Exception", .type "BaseException", .type "object"] "ValueError.__new__" = true
  g : mg x = some (.ref cn.1)
  k : PySem.W.keepIn K (.ref cn.1) = true
  b : PySem.W.subIn K (.ref cn.1) (.type "BaseException") = some true
  t : PySem.W.typeIn K (.ref cn.1) = some (.type "type")
section
variable {P : Program} {w : World} {K : Fg} {mg : Str → Option Value} {base : Heap} {ct : Nat → Addr × List Str}
theorem fn_dx {x qual : Str} {st : Stmt} {f : Addr} {fd : FuncData} {N ps : List Str} {k : Nat} {d : DS} (F : Fun K x qual st f fd) (S : FnScope N ps (defScope st))
    (h : ∀ (cdv : Value) (A : Around) (outer : List Env) (s : Shared) (H : Hp) (E : XK), Room k (A.deeper (envOfC qual (defScope st) s.heap.objs.size f cdv)) → TkE (cxOf (L2.CX P w) P w K mg base N qual (defScope st) f cdv A outer s H E) E →
      PSsd (cxOf (L2.CX P w) P w K mg base N qual (defScope st) f cdv A outer s H E) ct E (defBody st) d) :
    FnOk P w K mg base (L2.CX P w) (k + 1) f fd ps (spD1 ⟨K, ct⟩ (dDef ps.length N.length d)) := by
  refine F.okX S (fun vs H Q E hs => ?_) fun cdv A outer s H vs Q E hr hs => ?_
  · obtain ⟨ρ, xs, eh, h1, h2, h3⟩ := hs
    rw [← h1.length]
    unfold dDef at h3
    split at h3
    · assumption
    · exact h3.elim
  · obtain ⟨ρ, xs, eh, h1, h2, h3⟩ := hs
    obtain ⟨t, b1, b2⟩ := h cdv A outer s H E hr (takes_of rfl rfl rfl rfl)
    refine ⟨t, b1, b2 ρ (L2.start N vs) H _ eh _ ⟨sr_start N h1, h2⟩ ?_⟩
    unfold dDef at h3
    split at h3
    · cases q : d (xs.map some ++ List.replicate (N.length - xs.length) none) eh with
      | no => rw [q] at h3; exact h3
      | er z h' => rw [q] at h3; exact h3
      | ok fl h' =>
        rw [q] at h3
        intro ρ' H' vf e hr' rf
        cases fl with
        | nx es' =>
          cases vf with
          | nx σ' => exact h3 ρ' H' .non e hr' (vr_non.mpr rfl)
          | _ => exact rf.elim
        | rt v =>
          cases vf with
          | rt u => exact h3 ρ' H' u e hr' rf
          | _ => exact rf.elim
        | bk _ => exact h3.elim
        | ct _ => exact h3.elim
    · exact h3.elim
def FnDX (P : Program) (w : World) (K : Fg) (mg : Str → Option Value) (base : Heap) (ct : Nat → Addr × List Str) (k : Nat) (x : Str) (fn : DL) : Prop :=
  ∃ f fd ps, FnOk P w K mg base (L2.CX P w) k f fd ps (spD1 ⟨K, ct⟩ fn) ∧ mg x = some (.ref f) ∧ PySem.W.keepIn K (.ref f) = true ∧ Binds K fd ps []
theorem FnDX.mono {j k : Nat} {x : Str} {fn : DL} (F : FnDX P w K mg base ct j x fn) (h : j ≤ k) : FnDX P w K mg base ct k x fn := by
  obtain ⟨f, fd, ps, h1, h2⟩ := F
  exact ⟨f, fd, ps, h1.mono h, h2⟩
theorem fndx_mk {x : Str} {st : Stmt} {N ps : List Str} {k : Nat} {d : DS} (T : Tx K mg x st ps) (S : FnScope N ps (defScope st))
    (h : ∀ (f : Addr) (cdv : Value) (A : Around) (outer : List Env) (s : Shared) (H : Hp) (E : XK), Room k (A.deeper (envOfC x (defScope st) s.heap.objs.size f cdv)) → TkE (cxOf (L2.CX P w) P w K mg base N x (defScope st) f cdv A outer s H E) E →
      PSsd (cxOf (L2.CX P w) P w K mg base N x (defScope st) f cdv A outer s H E) ct E (defBody st) d) :
    FnDX P w K mg base ct (k + 1) x (dDef ps.length N.length d) := by
  obtain ⟨f, fd, F, hm, hb⟩ := T
  exact ⟨f, fd, ps, fn_dx F S (h f), hm, F.kp, hb⟩
end
section
variable {X : Cx} {ct : Nat → Addr × List Str} {E : XK} {G : Gx} {e : Expr} {es : List Expr} {pos p p2 p3 : Pos} {dr : DA}
theorem xe_callX {k : Nat} {x : Str} {fn : DL} (F : FnDX X.prog X.w X.K X.mg X.base ct k x fn) (hr : Room k X.A) (tk : TkE X E) (hg : Gl X x) (ha : PAd X ct E (e :: es) dr) (hdb : (x == ("__debug__" : Str)) = false := by decide)
    (he : starEach (e :: es) X.env = (false, eval e X.env) :: starEach es X.env := by rfl) (hpl : (backTo pos (starEach es X.env)).any (·.1) = false := by rfl) : PEd X ct E (.Call (.Name x p) (e :: es) [] pos) (dCallX fn dr) := by
  obtain ⟨f, fd, ps, h1, hm, hk, hb⟩ := F
  obtain ⟨ta, a1, a2⟩ := ha
  refine ⟨_, pe_call h1 hr hg hm hk hb .nil (passes_call tk fun _ _ _ _ h => h) a1 hdb he hpl, fun ρ σ H es eh Q rel h => ?_⟩
  refine a2.bind rel h fun ρ1 H1 xs eh1 us e1 rel1 v1 h1 => ?_
  exact ⟨ρ1, xs, eh1, by rw [List.append_nil]; exact v1, rel1.hr, h1⟩
theorem xs_raise (c : Nat) {x m : Str} {j : Nat} (T : XcD X.K X.mg (ct c) x) (hc : X.calm = true) (tk : TkE X E) (hg : Gl X x) (hdb : (x == ("__debug__" : Str)) = false := by decide) :
    PSd X ct E (.Raise (some (.Call (.Name x p) [.Constant (.str m) j p2] [] pos)) none p3) (dRaise c) := by
  refine ⟨_, ps_raise hc tk (pmk_own PySem.F.excBase_ValueError T.ex T.g T.k (raises_own T.b T.t) hg hdb), fun ρ σ H es eh D rel h => ?_⟩
  exact h ρ H (.ref (ct c).1) none (Ext.refl _ _ _) rel.hr ⟨rfl, rfl⟩
end
end EE
set_option Elab.async false
set_option linter.all false
set_option maxRecDepth 100000
set_option maxHeartbeats 1000000
namespace EE
open PySem PySem.Spec PyProof.Rows L2
structure XiD (K : Fg) (C : Addr) : Prop where
  cl : (PySem.W.clsIn K C).isSome = true
  ga : PySem.W.findIn K (.ref C) "__getattribute__" = some (some (.builtin "BaseException.__getattribute__"))
  gg : PySem.W.findIn K (.ref C) "__getattr__" = some none
  sb : PySem.W.subIn K (.ref C) (.type "BaseException") = some true
  cc : PySem.W.findIn K (.ref C) "__class__" = some (some (.builtin "object.__class__"))
  gs : PySem.W.specialIn K (.builtin "object.__class__") "__get__" = some (some (.builtin "getset_descriptor.__get__"))
  tk : PySem.W.takesIn K (.builtin "object.__class__") = some true
  ob : PySem.W.mroIn K C (.type "object") = some true
def rIsX (K : Fg) (D a : Addr) (d : Option Addr) : List V → Hp → VK → Prop := fun xs H Q => ∃ (c : V) (cv : Value) (b : Bool), xs = [.ref a, c] ∧ (∀ u, RelV c u → u = cv) ∧ PySem.W.kitOne K (.ref D) cv = some b ∧ (∀ dd, d = some dd → ∃ fs, H dd = some (.xd fs)) ∧ Q (.bl b) H
theorem call_isX {X : Cx} {a D : Addr} {d : Option Addr} {oe : Obj} {pn : List (Addr × Obj)} (C : XiD X.K D) (hz : Zc (.ref D) d oe) (hf : ∃ vs, oe.data = .fields vs) : CallR (X.suite a ((a, oe) :: pn)) (.builtin "isinstance") (rIsX X.K D a d) := by
  intro pins s σ H xs us Q I r h
  obtain ⟨c, cv, b, rfl, hcv, e, hd, q⟩ := h
  cases r with
  | cons rx rr =>
    cases rr with
    | cons rt rr =>
      cases rr
      cases rx
      have ec := hcv _ rt
      subst ec
      obtain ⟨hget, _⟩ := I.pin (a, oe) (List.mem_append.mpr (.inl List.mem_cons_self))
      obtain ⟨vs, hv⟩ := hf
      have J : ∃ od, PySem.W.InstAt s.heap a oe D od := by
        obtain ⟨oc, od, oda, osl⟩ := oe
        obtain ⟨h1, h2⟩ := hz
        dsimp only at h1 h2 hv
        subst h1 h2 hv
        cases od with
        | none => exact ⟨none, hget, rfl, rfl, trivial⟩
        | some dd =>
          obtain ⟨fs, hx⟩ := hd dd rfl
          have hx' : ObjOk X.prog X.w H s.heap dd (.xd fs) := I.hok dd _ hx
          obtain ⟨mA, ⟨o, _, _, ho, _⟩, _⟩ := hx'
          exact ⟨some o, hget, rfl, rfl, ho⟩
      obtain ⟨od, J⟩ := J
      exact PySem.W.kia_one (PySem.W.kitx_exc C.cl C.ga C.gg C.sb C.cc C.gs C.tk C.ob) I.kIn J e (fun z => nomatch z) fun tk => ⟨.bl b, H, I.kept (t' := tk) fun _ _ z => z, rfl, q⟩
def dIsX (a : Addr) (d : Option Addr) (i : Nat) (b : Bool) : DE := fun es h => match es[i]? with
  | some (some (.exc a' d' _ _)) => if a' = a ∧ d' = d then .ok (.bl b) h else .no
  | _ => .no
def dXf (a : Addr) (d : Option Addr) (i : Nat) (f : Str) : DE := fun es h => match es[i]? with
  | some (some (.exc a' d' [n] [x])) => if a' = a ∧ d' = d ∧ n = f ∧ d.isSome then .ok x h else .no
  | _ => .no
section
variable {X : Cx} {ct : Nat → Addr × List Str} {E : XK} {a D : Addr} {d : Option Addr} {oe : Obj} {pn : List (Addr × Obj)} {n c f : Str} {p p1 p2 pos : Pos}
theorem snd_isX {G : Gx} {i : Nat} {c : V} {cv : Value} {b : Bool} (hcv : ∀ u, RelV c u → u = cv) (hk : PySem.W.kitOne G.K (.ref D) cv = some b) : SndE G E (tCB (rIsX G.K D a d) (tCons (tVar i) (tCons (tC c) tNil))) (dIsX a d i b) := fun ρ σ H es eh Q rel h => by
  unfold dIsX at h
  split at h
  · rename_i a' d' nm fs he
    split at h
    · rename_i hh
      obtain ⟨rfl, rfl⟩ := hh
      obtain ⟨u, h1, h2⟩ := rel.sl.2 i _ he
      obtain ⟨rfl, vs, h3, h4⟩ := vr_exc.mp h2
      exact ⟨_, h1, c, cv, b, rfl, hcv, hk, fun dd hd => ⟨_, h4 dd hd⟩, h ρ H _ (Ext.refl _ _ _) rel.hr (vr_bl.mpr rfl)⟩
    · exact h.elim
  · exact h.elim
theorem xe_isX (i : Nat) {b : Bool} {C' : Addr} (T : XiD X.K D) (hz : Zc (.ref D) d oe) (hf : ∃ vs, oe.data = .fields vs) (hg : Gl X "isinstance") (hm : X.mg "isinstance" = none) (hgc : Gl X c) (hmc : X.mg c = some (.ref C')) (hk : PySem.W.kitOne X.K (.ref D) (.ref C') = some b)
    (hN : X.N[i]? = some n := by rfl) (hv : Vis X.env.scope n := by first | exact Or.inl rfl | exact Or.inr (Or.inl rfl) | exact Or.inr (Or.inr rfl)) (hd : (n == ("__debug__" : Str)) = false := by decide) (hcd : (n == ("__classdict__" : Str)) = false := by decide) (hd2 : (c == ("__debug__" : Str)) = false := by decide)
    (he : starEach [.Name n p1, .Name c p2] X.env = (false, eval (.Name n p1) X.env) :: starEach [.Name c p2] X.env := by rfl) (hpl : (backTo pos (starEach [.Name c p2] X.env)).any (·.1) = false := by rfl) :
    PEd (X.suite a ((a, oe) :: pn)) ct E (.Call (.Name "isinstance" p) [.Name n p1, .Name c p2] [] pos) (dIsX a d i b) :=
  ⟨_, pe_callB (call_isX T hz hf) hg hm (by decide +kernel) (pa_cons (pe_var (i := i) hN hv hd hcd) (pa_cons (pe_glob (v := .ref C') hgc hmc rfl hd2) pa_nil)), snd_isX (fun u r => r) hk⟩
theorem xe_isXB (i : Nat) {b : Bool} {T' : String} (T : XiD X.K D) (hz : Zc (.ref D) d oe) (hf : ∃ vs, oe.data = .fields vs) (hg : Gl X "isinstance") (hm : X.mg "isinstance" = none) (hgc : Gl X c) (hmc : X.mg c = none) (hbc : bootBuiltins c = some (.type T')) (hk : PySem.W.kitOne X.K (.ref D) (.type T') = some b)
    (hN : X.N[i]? = some n := by rfl) (hv : Vis X.env.scope n := by first | exact Or.inl rfl | exact Or.inr (Or.inl rfl) | exact Or.inr (Or.inr rfl)) (hd : (n == ("__debug__" : Str)) = false := by decide) (hcd : (n == ("__classdict__" : Str)) = false := by decide) (hd2 : (c == ("__debug__" : Str)) = false := by decide) (hd3 : c ≠ "__name__" := by decide)
    (he : starEach [.Name n p1, .Name c p2] X.env = (false, eval (.Name n p1) X.env) :: starEach [.Name c p2] X.env := by rfl) (hpl : (backTo pos (starEach [.Name c p2] X.env)).any (·.1) = false := by rfl) :
    PEd (X.suite a ((a, oe) :: pn)) ct E (.Call (.Name "isinstance" p) [.Name n p1, .Name c p2] [] pos) (dIsX a d i b) :=
  ⟨_, pe_callB (call_isX T hz hf) hg hm (by decide +kernel) (pa_cons (pe_var (i := i) hN hv hd hcd) (pa_cons (pe_bltn (v := .ty T') hgc hmc hbc rfl hd3 hd2) pa_nil)), snd_isX (fun u r => r) hk⟩
theorem xe_xf (i : Nat) (T : XfC X.K D) (hno : PySem.W.findIn X.K (.ref D) f = some none) (hz : Zc (.ref D) d oe) (hf : ∃ vs, oe.data = .fields vs)
    (hN : X.N[i]? = some n := by rfl) (hv : Vis X.env.scope n := by first | exact Or.inl rfl | exact Or.inr (Or.inl rfl) | exact Or.inr (Or.inr rfl)) (hd : (n == ("__debug__" : Str)) = false := by decide) (hcd : (n == ("__classdict__" : Str)) = false := by decide)
    (hb : attributeBase (.Name n p1) f X.env (eval (.Name n p1) X.env) = eval (.Name n p1) X.env := by rfl) :
    PEd (X.suite a ((a, oe) :: pn)) ct E (.Attribute (.Name n p1) f pos) (dXf a d i f) := by
  refine ⟨_, pe_xf T hno hz hf (pe_var (i := i) hN hv hd hcd) hb, fun ρ σ H es eh Q rel h => ?_⟩
  unfold dXf at h
  split at h
  · rename_i a' d' n' x he
    split at h
    · rename_i hh
      obtain ⟨rfl, rfl, rfl, hs⟩ := hh
      obtain ⟨u, h1, h2⟩ := rel.sl.2 i _ he
      obtain ⟨rfl, vs, h3, h4⟩ := vr_exc.mp h2
      obtain ⟨w, rfl, h5⟩ := vrs_one h3
      obtain ⟨dd, rfl⟩ := Option.isSome_iff_exists.mp hs
      refine ⟨_, h1, rfl, rfl, dd, _, w, rfl, h4 dd rfl, ?_, h ρ H _ (Ext.refl _ _ _) rel.hr h5⟩
      simp [List.lookup]
    · exact h.elim
  · exact h.elim
end
def boolsE : List EV → Option (List Bool)
  | [] => some []
  | x :: xs => match x, boolsE xs with
    | .bl b, some bs => some (b :: bs)
    | _, _ => none
theorem boolsE_eq : ∀ {xs : List EV} {bs : List Bool}, boolsE xs = some bs → xs = bs.map EV.bl
  | [], bs, h => by cases h; rfl
  | x :: xs, bs, h => by
    unfold boolsE at h
    split at h
    · rename_i s ss' e
      cases h
      rw [List.map_cons, boolsE_eq e]
    · cases h
theorem VRs.of_bools {K : Fg} {ρ : Rho} {H : Hp} : ∀ {bs : List Bool} {vs : List V}, VRs K ρ H (bs.map EV.bl) vs → vs = bs.map V.bl
  | [], vs, h => vrs_nil.mp h
  | s :: ss, vs, h => by
    obtain ⟨v, r, rfl, h1, h2⟩ := vrs_cons.mp h
    rw [vr_bl.mp h1, VRs.of_bools h2]
    rfl
def trueAt : List Bool → Option Nat
  | [] => none
  | true :: _ => some 0
  | false :: bs => (trueAt bs).map (· + 1)
theorem trueAt_ok : ∀ {bs : List Bool} {j : Nat}, trueAt bs = some j → bs[j]? = some true ∧ ∀ m, m < j → bs[m]? = some false
  | [], _, h => by cases h
  | true :: _, j, h => by
    cases h
    exact ⟨rfl, fun m hm => absurd hm (Nat.not_lt_zero _)⟩
  | false :: bs, j, h => by
    unfold trueAt at h
    obtain ⟨i, hi, rfl⟩ := Option.map_eq_some_iff.mp h
    obtain ⟨h1, h2⟩ := trueAt_ok hi
    refine ⟨h1, fun m hm => ?_⟩
    cases m with
    | zero => rfl
    | succ m => exact h2 m (by omega)
def mCntB : EV → DL := fun x xs h => match x, xs with
  | .ref n, [.bl true] => match lstAt h n with
    | some ys => match boolsE ys with
      | some bs => .ok (.int (bs.count true : Nat)) h
      | none => .no
    | none => .no
  | _, _ => .no
def mIdxB : EV → DL := fun x xs h => match x, xs with
  | .ref n, [.bl true] => match lstAt h n with
    | some ys => match boolsE ys with
      | some bs => match trueAt bs with
        | some j => .ok (.int (j : Nat)) h
        | none => .no
      | none => .no
    | none => .no
  | _, _ => .no
def eqT (v : Value) : Bool := match v with
  | .bool b => b
  | _ => false
def rCntB (K : Fg) : V → List V → Hp → VK → Prop := fun x xs H Q => ∃ (p : Addr) (bs : List Bool), x = .ref p ∧ xs = [.bl true] ∧ SqL K H p (bs.map V.bl) ∧ Q (.int (bs.count true : Nat)) H
theorem vals_bools : ∀ {bs : List Bool} {us : List Value}, Vals (bs.map V.bl) us → us = bs.map Value.bool
  | [], us, h => by cases h; rfl
  | b :: bs, us, h => by
    cases h with
    | cons r1 r2 =>
      cases r1
      rw [List.map_cons, vals_bools r2]
section
variable {X : Cx} {ct : Nat → Addr × List Str} {E : XK} {G : Gx}
theorem mt_cntB : MtR X "list.count" (rCntB X.K) := by
  intro pins s σ H x xs v us Q I rx rxs h
  obtain ⟨p, bs, rfl, rfl, hs, q⟩ := h
  cases rx
  obtain ⟨u, rfl, ru⟩ := rxs.one
  cases ru
  obtain ⟨its, rv, ⟨⟨cls, dd, data, sl⟩, n, ho, hc, hdn, hd⟩, hlen⟩ := I.list hs
  simp only at hc hd
  subst hc hd
  have hb := vals_bools rv
  subst hb
  refine call_meets PySem.F.slot_list_count ⟨_, ho, rfl⟩ PySem.F.entry_list_count (PySem.F.args_list_count_2 _ _)
    (SeqAt.list_countAt p (bs.map Value.bool).toArray n dd sl (.bool true) eqT) ⟨ho, fun y hy => ?_, ?_⟩
  · have hm : y ∈ bs.map Value.bool := by simpa using hy
    obtain ⟨b, _, rfl⟩ := List.mem_map.mp hm
    have e : eqT (.bool b) = eqV (.bl b) (.bl true) := by cases b <;> rfl
    rw [e]
    exact eqAt_V (y := .bl b) (x := .bl true) (u := .bool b) (v := .bool true) rfl rfl rfl rfl
  · refine ⟨.int (bs.count true : Nat), H, I.tok _, ⟨s.toks, ?_⟩, q⟩
    have ec : (bs.map Value.bool).countP eqT = bs.count true := by
      rw [List.countP_map, List.count]
      congr 1
      funext b
      cases b <;> rfl
    show Value.int (((bs.map Value.bool).toArray.toList.countP eqT : Nat) : Int) s.toks = _
    rw [List.toList_toArray, ec]
theorem m_cntB : Mtd X ct E "list.count" mCntB := ⟨_, mt_cntB, fun ρ H eh x a xs as Q hr hx hxs h => by
  unfold mCntB at h
  split at h
  · rename_i n
    split at h
    · rename_i ys e1
      split at h
      · rename_i bs e2
        obtain ⟨a1, vs, g1, g2, g3⟩ := lst_of hr e1
        obtain ⟨a', q1, rfl⟩ := vr_ref.mp hx
        rw [g1] at q1; cases q1
        obtain ⟨v, rfl, hv⟩ := vrs_one hxs
        rw [boolsE_eq e2] at g3
        rw [VRs.of_bools g3] at g2
        exact ⟨a1, bs, rfl, by rw [vr_bl.mp hv], g2, h ρ H _ (Ext.refl _ _ _) hr (vr_int.mpr rfl)⟩
      · exact h.elim
    · exact h.elim
  · exact h.elim⟩
theorem m_idxB : Mtd X ct E "list.index" mIdxB := ⟨_, mt_index, fun ρ H eh x a xs as Q hr hx hxs h => by
  unfold mIdxB at h
  split at h
  · rename_i n
    split at h
    · rename_i ys e1
      split at h
      · rename_i bs e2
        split at h
        · rename_i j e3
          obtain ⟨a1, vs, g1, g2, g3⟩ := lst_of hr e1
          obtain ⟨a', q1, rfl⟩ := vr_ref.mp hx
          rw [g1] at q1; cases q1
          obtain ⟨v, rfl, hv⟩ := vrs_one hxs
          rw [boolsE_eq e2] at g3
          rw [VRs.of_bools g3] at g2
          obtain ⟨t1, t2⟩ := trueAt_ok e3
          refine ⟨a1, bs.map V.bl, .bl true, j, .bl true, rfl, by rw [vr_bl.mp hv], g2, rfl, ?_, by rw [List.getElem?_map, t1]; rfl, rfl, fun m z' hm hz => ?_, h ρ H _ (Ext.refl _ _ _) hr (vr_int.mpr rfl)⟩
          · rw [List.all_map, List.all_eq_true]
            intro b _
            rfl
          · rw [List.getElem?_map, t2 m hm] at hz
            cases hz
            rfl
        · exact h.elim
      · exact h.elim
    · exact h.elim
  · exact h.elim⟩
variable {a e : Expr} {da : DE} {dr : DA}
theorem xe_cntB {apos cpos : Pos} (ho : PEd X ct E a da) (ha : PAd X ct E [e] dr)
    (hbase : attributeBase a "count" X.env (eval a X.env) = eval a X.env := by rfl)
    (hfew : ((backTo cpos (starEach [e] X.env)).all (fun x => !x.1) && (backToKw cpos (keywordEach [] X.env)).all (fun x => x.1.isSome)
      && decide ([e].length + ([] : List Keyword).length + (if ([] : List Keyword).isEmpty then 0 else 1) < 30)) = true := by rfl)
    (hline : (apos.endLine == cpos.line) = true := by rfl) (hs : starEach [e] X.env = (false, eval e X.env) :: starEach [] X.env := by rfl) (hplain : (backTo cpos (starEach [] X.env)).any (·.1) = false := by rfl) :
    PEd X ct E (.Call (.Attribute a "count" apos) [e] [] cpos) (dBM mCntB da dr) := xe_bmL PySem.F.plainAttrs_list PySem.F.slot_list_count PySem.F.type_list_count m_cntB ho ha hbase hfew hline hs hplain
theorem xe_idxB {apos cpos : Pos} (ho : PEd X ct E a da) (ha : PAd X ct E [e] dr)
    (hbase : attributeBase a "index" X.env (eval a X.env) = eval a X.env := by rfl)
    (hfew : ((backTo cpos (starEach [e] X.env)).all (fun x => !x.1) && (backToKw cpos (keywordEach [] X.env)).all (fun x => x.1.isSome)
      && decide ([e].length + ([] : List Keyword).length + (if ([] : List Keyword).isEmpty then 0 else 1) < 30)) = true := by rfl)
    (hline : (apos.endLine == cpos.line) = true := by rfl) (hs : starEach [e] X.env = (false, eval e X.env) :: starEach [] X.env := by rfl) (hplain : (backTo cpos (starEach [] X.env)).any (·.1) = false := by rfl) :
    PEd X ct E (.Call (.Attribute a "index" apos) [e] [] cpos) (dBM mIdxB da dr) := xe_bmL PySem.F.plainAttrs_list PySem.F.slot_list_index PySem.F.type_list_index m_idxB ho ha hbase hfew hline hs hplain
end
end EE
set_option Elab.async false
set_option linter.all false
set_option maxRecDepth 100000
set_option maxHeartbeats 1000000
namespace EE
open PySem PySem.Spec PyProof.Rows L2
theorem wr_imp {α β : Type} {G : Gx} {R : Rho → Hp → α → β → Prop} {ρ : Rho} {H : Hp} {r : Res α} {Q Q' : β → Hp → Prop} {E : XK} (hq : ∀ v H, Q v H → Q' v H) (h : wr G R ρ H r Q E) : wr G R ρ H r Q' E := by
  cases r with
  | ok v h' => exact fun ρ' H' u e hr q => hq _ _ (h ρ' H' u e hr q)
  | er x h' => exact h
  | no => exact h
def D0 (Q : VK) : Ends := { nx := fun _ H' => Q .non H', rt := Q }
def Hand (G : Gx) (raised : Nat → Prop) (dS : Nat → Addr → Option Addr → DS) (cls : Value) (d : Option Addr) (H : Hp) (Q : Addr → VF → Hp → Prop) : Prop :=
  ∃ (c : Nat) (ρ : Rho) (eh : EH) (nm : List Str) (fs : List EV), raised c ∧ cls = .ref (G.ct c).1 ∧ HR G ρ H eh ∧ (∃ vs, VRs G.K ρ H fs vs ∧ ∀ dd, d = some dd → H dd = some (.xd (nm.zip vs))) ∧
    ∀ a, wr G (RF G) ρ H (dS c a d [none, some (.exc a d nm fs), none, none, none] eh) (Q a) E0
def TTw (G : Gx) (raised : Nat → Prop) (dS : Nat → Addr → Option Addr → DS) : (XK → Hp → VK → Prop) → Hp → VK → Prop := fun tl H Q =>
  tl (fun cls d H' => Hand G raised dS cls d H' fun _ => qD (D0 Q)) H Q
def tsW (G : Gx) (raised : Nat → Prop) (dS : Nat → Addr → Option Addr → DS) (a : Addr) (cls : Value) (d : Option Addr) : TS := fun D σ H =>
  σ.length = 5 → σ[1]? = some (some (V.ref a)) ∧ Hand G raised dS cls d H fun _ => qD D
def SuiteD (X0 : Cx) (ct : Nat → Addr × List Str) (raised : Nat → Prop) (b0 : Stmt) (suite : List Stmt) (dS : Nat → Addr → Option Addr → DS) : Prop :=
  ∀ (a : Addr) (oe : Obj) (d : Option Addr) (pn : List (Addr × Obj)) (c : Nat), raised c → Zc (.ref (ct c).1) d oe → (∃ vs, oe.data = .fields vs) → PSsd (X0.suite a ((a, oe) :: pn)) ct E0 (b0 :: suite) (dS c a d)
section
variable {X : Cx} {ct : Nat → Addr × List Str}
theorem gives_word {Ng : List Str} {x a e n q : Str} {sg : Scope} {g news : Addr} {cdg : Value} {raised : Nat → Prop} {dS : Nat → Addr → Option Addr → DS} {b0 : Stmt} {suite : List Stmt} {p1 p2 p3 p4 p7 p8 : Pos}
    (hge : sg.names.lookup e = some .globalImplicit) (hme : X.mg e = some (.ref news)) (hde : (e == ("__debug__" : Str)) = false) (h0 : ∀ f : Addr, (L2.start Ng [V.ref f])[0]? = some (some (V.ref f))) (hnd : Ng.Nodup) (hn : Ng[1]? = some n) (hln : sg.names.lookup n = some .local) (h5 : Ng.length = 5)
    (hex : ∀ c, raised c → PySem.W.exmOne X.K (.ref (ct c).1) (.ref news) = some true)
    (hS : ∀ (s : Shared) (H : Hp), SuiteD ((cxOf C8.CX0 X.prog X.w X.K X.mg X.base Ng x sg g cdg X.A X.stack s H C8.E0).nox) ct raised b0 suite dS) :
    LamX.GivesTo X Ng x sg g cdg [.Try [.Return (some (.Call (.Name a p1) [] [] p2)) p3] [.ExceptHandler (some (.Name e p4)) (some n) (b0 :: suite) p7] [] [] p8] a q (TTw ⟨X.K, ct⟩ raised dS) := by
  intro f c' s H Q tl act hc h
  have hgl : Gl (cxOf C8.CX0 X.prog X.w X.K X.mg X.base Ng x sg g cdg X.A X.stack s H C8.E0).nox e := hge
  refine ⟨_, pss_one (ps_try_as (X := (cxOf C8.CX0 X.prog X.w X.K X.mg X.base Ng x sg g cdg X.A X.stack s H C8.E0).nox) (c := .ref news) (i := 1)
      (tb := fun W D σ H => ∃ Ech : XK, (∀ cls d σ' H', Ech cls d H' → W cls d σ' H') ∧ σ[0]? = some (some (.ref f)) ∧ H c' = some (LamX.CodeO c' q) ∧ tl Ech H D.rt) (ts := tsW ⟨X.K, ct⟩ raised dS)
      rfl rfl hnd hn hln ⟨hgl, hde, .inl hme⟩ LamX.takes0 (fun W pn xe tk _ => ?_) (fun a oe cls d pn hz hf => ?_)), ?_⟩
  · refine ⟨fun pins s' σ H' D I h' => ?_⟩
    obtain ⟨Ech, hW, h1, h2, h3⟩ := h'
    have hp := act W pn xe Ech p1 p2 tk hW
    have hq := pss_one (ps_ret (pos := p3) hp)
    exact hq.run pins s' σ H' D I ⟨h1, h2, h3⟩
  · refine ⟨fun pins s' σ H' D I h' => ?_⟩
    have hl : σ.length = 5 := I.len.trans h5
    obtain ⟨hs, c, ρ, eh, nm, fs, hr, rfl, hh, ⟨vs, v1, v2⟩, w⟩ := h' hl
    obtain ⟨t, b1, b2⟩ := hS s H a oe d pn c hr hz hf
    refine b1.run pins s' σ H' D I (b2 ρ σ H' _ eh D ⟨⟨by rw [hl]; rfl, fun i v hv => ?_⟩, hh⟩ (w a))
    match i, hv with
    | 0, hv => cases hv
    | 1, hv =>
      cases hv
      exact ⟨.ref a, hs, vr_exc.mpr ⟨rfl, vs, v1, v2⟩⟩
    | 2, hv => cases hv
    | 3, hv => cases hv
    | 4, hv => cases hv
    | i + 5, hv => simp at hv
  · refine ⟨fun cls d H' => Hand ⟨X.K, ct⟩ raised dS cls d H' fun _ => qD (D0 Q), fun cls d σ' H' hh => ?_, h0 f, hc, h⟩
    obtain ⟨c, ρ, eh, nm, fs, hr, rfl, hh, hv, w⟩ := hh
    refine ⟨true, hex c hr, fun _ a ha hl => ⟨?_, c, ρ, eh, nm, fs, hr, rfl, hh, hv, fun a' => wr_imp (fun v H2 hq => ?_) (w a')⟩, fun z => nomatch z⟩
    · rw [List.length_set] at hl
      exact List.getElem?_set_self (by omega)
    · cases v with
      | nx σ2 => exact hq
      | rt u => exact hq
      | bk σ2 => exact hq
      | ct σ2 => exact hq
def dWord (rs : Nat → List EV → EH → Option (EV × EH)) (d : DE) : DE := fun es h => match d es h with
  | .ok v h1 => .ok v h1
  | .er x h1 => match rs x.c x.fs h1 with
    | some (v, h2) => .ok v h2
    | none => .no
  | .no => .no
theorem extN_ext {K : Fg} {ρ : Rho} {H H1 : Hp} (e : LamX.ExtN H H1) : Ext K ρ ρ H H1 where
  pre := ⟨[], by simp⟩
  tup := fun a xs h => e _ _ h fun _ z => nomatch z
  frz := fun a o u h => e _ _ h fun _ z => nomatch z
  xd := fun a fs h => e _ _ h fun _ z => nomatch z
  new := fun a h => .inl h
  rest := fun a o h hp _ => e _ _ h hp
theorem extN_hr {G : Gx} {ρ : Rho} {H H1 : Hp} {eh : EH} (hr : HR G ρ H eh) (e : LamX.ExtN H H1) (t : LamX.Tabs (tabOf G.ct) H1) : HR G ρ H1 eh :=
  hr.ext (extN_ext e).toExt0 (fun a ha => by
    obtain ⟨n, o, h1, h2, h3, h4⟩ := hr.at ha
    obtain ⟨u, e1, e2⟩ := h4.pln h3
    rw [e1]
    exact e _ _ e1 e2.1) t
theorem xe_word {E : XK} {x a e n : Str} {g c P news : Addr} {k : Nat} {pg : Arguments} {sg : Scope} {dV kV doc pm cdv ctv oc : Value} {an od : Option Addr} {osl : Array (Option Value)} {Ng : List Str} {b0 : Stmt} {suite : List Stmt} {p1 p2 p3 p4 p7 p8 : Pos}
    {params : Arguments} {body : Expr} {scope : Scope} {p lpos pos : Pos} {raised : Nat → Prop} {dS : Nat → Addr → Option Addr → DS} {rs : Nat → List EV → EH → Option (EV × EH)} {d : DE}
    (hg : Gl X x) (hm : X.mg x = some (.ref g)) (hk : PySem.W.keepIn X.K (.ref g) = true)
    (lk : X.K.lookup g = some ⟨oc, od, .func (PySem.W.fnOf x x pg [.Try [.Return (some (.Call (.Name a p1) [] [] p2)) p3] [.ExceptHandler (some (.Name e p4)) (some n) (b0 :: suite) p7] [] [] p8] sg dV kV doc pm an cdv ctv), osl⟩) (hcg : PySem.W.codeIn X.K cdv x = true)
    (hb : L2.Binds X.K (PySem.W.fnOf x x pg [.Try [.Return (some (.Call (.Name a p1) [] [] p2)) p3] [.ExceptHandler (some (.Name e p4)) (some n) (b0 :: suite) p7] [] [] p8] sg dV kV doc pm an cdv ctv) [a] []) (Sg : FnScope Ng [a] sg) (hNg : Ng[0]? = some a) (hva : Vis sg a)
    (hge : sg.names.lookup e = some .globalImplicit) (hme : X.mg e = some (.ref news)) (hde : (e == ("__debug__" : Str)) = false) (h0 : ∀ f : Addr, (L2.start Ng [V.ref f])[0]? = some (some (V.ref f))) (hn : Ng[1]? = some n) (hln : sg.names.lookup n = some .local) (h5 : Ng.length = 5)
    (hex : ∀ c, raised c → PySem.W.exmOne X.K (.ref (ct c).1) (.ref news) = some true)
    (hS : ∀ (s : Shared) (H : Hp), SuiteD ((cxOf C8.CX0 X.prog X.w X.K X.mg X.base Ng x sg g cdv X.A X.stack s H C8.E0).nox) ct raised b0 suite dS)
    (TB : LamX.TabB X.base X.mg c P) (hcode : X.env.code = .ref c) (hmT : (P, X.env.qual ++ "<lambda>") ∈ tabOf ct) (hu : ∀ p ∈ tabOf ct, p.1 = P → p.2 = X.env.qual ++ "<lambda>") (hr : Room (k + 2) X.A) (L : LamX.LamS X.env.scope scope) (hdef : defaultsOf params X.env = ([], []))
    (hbind : ∀ (q : Str) (cl : List (Str × Addr)) (pm cv ctv : Value), bindArgs (PySem.W.kla_fn "<lambda>" q params body scope cl pm cv ctv) ⟨[], []⟩ = pure [])
    (hbody : ∀ (A : Around) (outer : List Env) (s : Shared) (H : Hp) (E : XK) (f c' : Addr), Room k (A.deeper (LamX.lamEnv X scope s.heap.objs.size f c')) → TkE (LamX.lamCx X A outer s H E scope f c') E → PEd (LamX.lamCx X A outer s H E scope f c') ct E body d)
    (hrs : ∀ (c : Nat) (a : Addr) (dd : Option Addr) (fs : List EV) (h1 : EH) (v : EV) (h2 : EH), rs c fs h1 = some (v, h2) → dd.isSome = !fs.isEmpty → raised c ∧ dS c a dd [none, some (.exc a dd (ct c).2 fs), none, none, none] h1 = .ok (.rt v) h2)
    (hdb : (x == ("__debug__" : Str)) = false := by decide) (hd : (a == ("__debug__" : Str)) = false := by decide) (hcd : (a == ("__classdict__" : Str)) = false := by decide) :
    PEd X ct E (.Call (.Name x p) [.Lambda params body scope lpos] [] pos) (dWord rs d) := by
  refine ⟨_, LamX.pe_lamcall (T := tabOf ct) (t := fun E => tE ⟨X.K, ct⟩ E d) hg hm hk lk hcg hb Sg hNg hva (gives_word hge hme hde h0 Sg.nd hn hln h5 hex hS) TB hcode hmT hu hr L hdef hbind (fun A outer s H E f c' hr' => (hbody A outer s H E f c' hr' (takes_of rfl rfl rfl rfl)).can) hdb hd hcd, fun ρ σ H es eh Q rel h => ?_⟩
  refine ⟨rel.hr.tab, fun H1 eN t1 => ?_⟩
  have e0 : Ext X.K ρ ρ H H1 := extN_ext eN
  have hr1 := extN_hr rel.hr eN t1
  refine ⟨ρ, es, eh, rel.ext e0 hr1, ?_⟩
  unfold dWord at h
  cases q : d es eh with
  | ok v h' =>
    rw [q] at h
    exact wr.mono e0 h
  | no =>
    rw [q] at h
    exact h.elim
  | er z h' =>
    rw [q] at h
    simp only at h
    cases q2 : rs z.c z.fs h' with
    | none => rw [q2] at h; exact h.elim
    | some vh =>
      obtain ⟨v, h2⟩ := vh
      rw [q2] at h
      simp only at h
      intro ρ' H' cl own e' hr' xr
      obtain ⟨xc, xf⟩ := xr
      have key : own.isSome = !z.fs.isEmpty ∧ ∃ vs, VRs X.K ρ' H' z.fs vs ∧ ∀ dd, own = some dd → H' dd = some (.xd ((ct z.c).2.zip vs)) := by
        cases hf : z.fs with
        | nil =>
          rw [hf] at xf
          simp only at xf
          subst xf
          exact ⟨rfl, [], vrs_nil.mpr rfl, fun dd z => nomatch z⟩
        | cons y r =>
          rw [hf] at xf
          simp only at xf
          obtain ⟨dd, vs, rfl, h3, h4, _⟩ := xf
          exact ⟨rfl, vs, h4, fun dd' z => by cases z; exact h3⟩
      obtain ⟨k1, vs, k2, k3⟩ := key
      obtain ⟨r1, _⟩ := hrs z.c 0 own z.fs h' v h2 q2 k1
      refine ⟨z.c, ρ', h', (ct z.c).2, z.fs, r1, xc, hr', ⟨vs, k2, k3⟩, fun a => ?_⟩
      rw [(hrs z.c a own z.fs h' v h2 q2 k1).2]
      intro ρ2 H2 u e2 hr2 rf
      cases u with
      | rt w => exact h ρ2 H2 w ((e0.trans e').trans e2) hr2 rf
      | _ => exact rf.elim
end
end EE
set_option Elab.async false
set_option linter.all false
set_option maxRecDepth 100000
set_option maxHeartbeats 1000000
namespace EE
open PySem PySem.Spec PyProof.Rows L2
abbrev SupLine (a2 c1 c2 : Str) (j1 j2 : Nat) (p0 p1 p2 p3 p4 p5 p6 p7 p8 : Pos) : Prop := ∀ env : Env, ∃ pl : Sem Bool,
  eval (.Call (.Attribute (.Call (.Name "super" p0) [] [] p1) "__init__" p2) [.JoinedStr [.Constant (.str c1) j1 p3, .FormattedValue (.Name a2 p4) (-1) none p5, .Constant (.str c2) j2 p6] p7] [] p8) env = (do
    let ov ← attributeBase (.Call (.Name "super" p0) [] [] p1) "__init__" env (eval (.Call (.Name "super" p0) [] [] p1) env)
    standAt p2.atName
    let (f, first) ← holding [ov] (getMethod ov "__init__" pl)
    callWith p8 f first (backTo p8 (starEach [.JoinedStr [.Constant (.str c1) j1 p3, .FormattedValue (.Name a2 p4) (-1) none p5, .Constant (.str c2) j2 p6] p7] env)) [])
abbrev supBody (a1 a2 fld c1 c2 : Str) (j1 j2 : Nat) (p0 p1 p2 p3 p4 p5 p6 p7 p8 p9 p10 p11 p12 p13 : Pos) : List Stmt :=
  [.Expr (.Call (.Attribute (.Call (.Name "super" p0) [] [] p1) "__init__" p2) [.JoinedStr [.Constant (.str c1) j1 p3, .FormattedValue (.Name a2 p4) (-1) none p5, .Constant (.str c2) j2 p6] p7] [] p8) p9,
    .Assign [.Attribute (.Name a1 p10) fld p11] (.Name a2 p12) p13]
section
variable {P : Program} {w : World} {A : Around} {K : Fg} {mg mb : Str → Option Value} {hp : Heap} {g : Array GenState} {dr : Drawn} {t : Nat} {os : OsState} {R : Result → Shared → Prop}
variable {C cc cda f x : Addr} {a1 a2 fld c1 c2 : Str} {j1 j2 : Nat} {p0 p1 p2 p3 p4 p5 p6 p7 p8 p9 p10 p11 p12 p13 : Pos} {scope : Scope} {name qual file : Str} {params : Arguments} {dV kV doc pm ct oc ccl cl : Value} {an od cdd cld : Option Addr} {osl ccs csl : Array (Option Value)} {vs : Array Value} {tf : Tok} {cdD : ClassData} {ar : Arg} {t0 : Addr} {i : Int} {ti : Tok}
theorem sup_init (hev : SupLine a2 c1 c2 j1 j2 p0 p1 p2 p3 p4 p5 p6 p7 p8) (KX : K.In hp) (hnl : hp.NoLimit) (hgl : hp.Ns mainGlobals mg) (hmg : mg "super" = none) (hbl : hp.Ns builtinsNs mb) (hmb : mb "super" = some (.type "super")) (hroom : A.depth < recursionLimit)
    (lk : K.lookup f = some ⟨oc, od, .func (PySem.W.ksFn name qual params (supBody a1 a2 fld c1 c2 j1 j2 p0 p1 p2 p3 p4 p5 p6 p7 p8 p9 p10 p11 p12 p13) scope dV kV doc pm an (.ref cda) ct cc), osl⟩) (hcd : PySem.W.codeIn K (.ref cda) qual = true)
    (hbind : ∀ (s : Shared) (u v : Value), BindsTo s (PySem.W.ksFn name qual params (supBody a1 a2 fld c1 c2 j1 j2 p0 p1 p2 p3 p4 p5 p6 p7 p8 p9 p10 p11 p12 p13) scope dV kV doc pm an (.ref cda) ct cc) ⟨[u, v], []⟩ [(a1, u), (a2, v)])
    (hcode : K.lookup cda = some ⟨ccl, cdd, .fields vs, ccs⟩) (hvs : vs[2]? = some (.str file tf)) (hfile : ((P.main.file : Str) == file) = true) (htop : (P.main.scope.names.lookup ("super" : Str)).isSome = false)
    (hcell : K.lookup cc = some ⟨cl, cld, .cell (some (.ref C)), csl⟩) (hD : PySem.W.clsIn K C = some cdD) (hsub : PySem.W.mroIn K C (.ref C) = some true)
    (hpar : (params.posonlyargs ++ params.args).head? = some ar) (har : ar.arg = a1) (hne : (a1 == a2) = false)
    (hks : scope.names.lookup ("super" : Str) = some .globalImplicit) (hkc : scope.names.lookup ("__class__" : Str) = some .free) (h1 : scope.names.lookup a1 = some .local) (h2 : scope.names.lookup a2 = some .local) (hcells : ∀ y ∈ scope.names, y.2 ≠ .cell) (hco : scope.isCoroutine = false) (hgen : scope.isGenerator = false) (hk : scope.kind = .function)
    (hd1 : (a1 == ("__debug__" : Str)) = false) (hd2 : (a2 == ("__debug__" : Str)) = false)
    (htp : PySem.W.nsIn K cStatics "thirdparty.any" = some none) (hmi : PySem.W.ks_superIn K C C "__init__" = some (some (.builtin "ValueError.__init__"))) (hB : PySem.W.subIn K (.ref C) (.type "ValueError") = some true) (hei : PySem.W.excInitIn K C [.type "ValueError", .type "Exception", .type "BaseException", .type "object"] "ValueError.__new__" = true)
    (hsa : PySem.W.findIn K (.ref C) "__setattr__" = some (some (.builtin "object.__setattr__"))) (hmr : PySem.HandSPX.refsVE cdD.mro = true) (hdi : cdD.hasDict = true) (hno : PySem.W.findIn K (.ref C) fld = some none)
    (hx : hp.get? x = some (PySem.HandSPX.excO C t0)) (hxK : K.lookup x = none) (hi : i.natAbs.log2 < 1920) (hl : ((Str.empty ++ c1) ++ toString i).length + c2.length ≤ 100000)
    (hR : ∀ (h' : Heap) (tk : Nat) (dx t1 : Addr), (∀ b o, b ≠ x → hp.get? b = some o → h'.get? b = some o) → hp.objs.size ≤ dx → dx ≠ x → h'.get? x = some { cls := .ref C, dict := some dx, data := .fields #[.ref t1, .none, .none, .none, .bool false, .none] } →
      h'.Ns1 dx (fun y => if y = fld then some (.int i ti) else none) → R (.ok (.ret .none)) ⟨h', g, dr, tk, os⟩) :
    codeAny (model P w) A (.call (.ref f) ⟨[.ref x, .int i ti], []⟩) R ⟨hp, g, dr, t, os⟩ := by
  obtain ⟨oD, hD1, hD2⟩ : ∃ oD, hp.get? C = some oD ∧ oD.data = .cls cdD := by
    unfold PySem.W.clsIn at hD
    split at hD
    · rename_i c d cd' sl ho
      cases hD
      exact ⟨_, KX _ _ ho, rfl⟩
    · cases hD
  refine PySem.ks_codeAny_call_defAt (body := supBody a1 a2 fld c1 c2 j1 j2 p0 p1 p2 p3 p4 p5 p6 p7 p8 p9 p10 p11 p12 p13) (binds := [(a1, .ref x), (a2, .int i ti)]) hroom (KX _ _ lk) rfl hnl (PySem.W.codeRec_of KX hcd) rfl (hbind _ _ _) hcells (fun y hy => ?_) (fun h₁ hns hkp => ?_) hco hgen hk
  · rcases List.mem_cons.mp hy with e | hy
    · rw [e]; exact h1
    · rw [List.mem_singleton.mp hy]; exact h2
  have X0 : K.In (PySem.W.hideAll hp [x]) := fun a o e => PySem.W.hideAll_get [x] (KX a o e) (fun z => by rw [List.mem_singleton.mp z, hxK] at e; cases e)
  have Fa : Fr (PySem.W.hideAll hp [x]) hp.objs.size h₁ (fun y => ([(a1, Value.ref x), (a2, Value.int i ti)] : List (Str × Value)).reverse.lookup y) := ⟨hns, fun b o e => hkp b o (PySem.W.of_hideAll _ e), Nat.le_of_eq (PySem.W.hideAll_size _ _)⟩
  have Na : News (PySem.W.hideAll hp [x]) hp.objs.size h₁ [(x, PySem.W.excObj C t0 none .none)] := fun p hm => by
    rw [List.mem_singleton.mp hm]
    exact ⟨hkp _ _ hx, Nat.ne_of_lt (Heap.lt_size hx), PySem.W.hideAll_none _ (List.mem_singleton.mpr rfl)⟩
  have v1 : ([(a1, Value.ref x), (a2, Value.int i ti)] : List (Str × Value)).reverse.lookup a1 = some (.ref x) := by
    simp [List.lookup, hne]
  have v2 : ([(a1, Value.ref x), (a2, Value.int i ti)] : List (Str × Value)).reverse.lookup a2 = some (.int i ti) := by
    simp [List.lookup]
  obtain ⟨pl, hev⟩ := hev (callEnv (PySem.W.ksFn name qual params (supBody a1 a2 fld c1 c2 j1 j2 p0 p1 p2 p3 p4 p5 p6 p7 p8 p9 p10 p11 p12 p13) scope dV kV doc pm an (.ref cda) ct cc) hp.objs.size f)
  have hint : interactive (callEnv (PySem.W.ksFn name qual params (supBody a1 a2 fld c1 c2 j1 j2 p0 p1 p2 p3 p4 p5 p6 p7 p8 p9 p10 p11 p12 p13) scope dV kV doc pm an (.ref cda) ct cc) hp.objs.size f) = false := by
    have hk' : (callEnv (PySem.W.ksFn name qual params (supBody a1 a2 fld c1 c2 j1 j2 p0 p1 p2 p3 p4 p5 p6 p7 p8 p9 p10 p11 p12 p13) scope dV kV doc pm an (.ref cda) ct cc) hp.objs.size f).scope.kind = .function := hk
    unfold interactive
    simp [hk']
  refine PySem.ks_wpAt_execs_cons (PySem.ks_wpAt_Expr_any (hi := hint) (PySem.ks_wpAt_MethodCall (pl := pl) (he := hev) (PySem.ks_wpAt_super_base (f := f) (cc := cda) hks hkc (by decide +kernel) rfl (hkp _ _ (KX _ _ lk)) rfl hpar rfl (hkp _ _ (KX _ _ hcode)) rfl hvs hfile htop ?_)))
  refine PySem.W.ks_loadName_global hk hks (Calls.loadGlobal_builtin (hgl.at' fun o e => hkp _ o e) hmg (hbl.at' fun o e => hkp _ o e) hmb ⟨rfl, ?_⟩)
  refine wpAny_loadName_free hk hkc rfl ⟨_, hkp _ _ (KX _ _ hcell), rfl⟩ ?_
  rw [har]
  refine wpAny_loadName_local hk h1 hns v1 ?_
  refine PySem.ks_wpAny_isType_cls (hkp _ _ hD1) hD2 ⟨rfl, ?_⟩
  refine PySem.ks_wpAny_call_super (hkp _ _ hD1) hD2 (hkp _ _ hx) rfl (fun c e => nomatch e) (PySem.W.looks_mroIn (KX.keeps hkp) hsub) (fun hb e2 k2 => ?_)
  obtain ⟨Fb, Nb, lb⟩ := PySem.W.ks_newsPush (s := ⟨h₁, g, dr, t + 2, os⟩) Fa Na rfl e2 k2
  refine PySem.W.kxs_method PySem.W.kxs_ValueError Fb X0 Nb List.mem_cons_self (PySem.W.InstAt.of_exc0 Nb (List.mem_cons_of_mem _ List.mem_cons_self)) htp hmi hB (by decide +kernel) (fun q hc Fc Nc lc => ?_)
  refine PySem.W.kxs_callWith1 (i := "ValueError.__init__") (x := x) Nc List.mem_cons_self ?_
  refine Calls.spliced_cons (wpAny_JoinedStr (pos := p7) ?_)
  have hle : (Str.empty ++ c1).length ≤ ((Str.empty ++ c1) ++ toString i).length := by
    rw [TL.len_tl, TL.len_tl, TL.tl_append (Str.empty ++ c1)]
    simp
  have hsl := sz5 (Nat.le_refl 100000)
  show Joins _ _ _ (eval (.Constant (.str c1) j1 p3) _ :: eval (.FormattedValue (.Name a2 p4) (-1) none p5) _ :: eval (.Constant (.str c2) j2 p6) _ :: []) _ _ _
  refine Calls.Constant_str ⟨c1, _, rfl, by omega, ?_⟩
  refine wpAny_FormattedValue_plain (wpAny_Name (wpAny_loadName_local hk h2 Fc.ns v2 (wpAny_formatField_int hi ⟨_, _, rfl, by omega, ?_⟩)) hd2)
  have hl3 : ((Str.empty ++ c1 ++ toString i) ++ c2).length ≤ 100000 := by
    rw [TL.len_tl, TL.tl_append, List.length_append, ← TL.len_tl, ← TL.len_tl]
    exact hl
  refine Calls.Constant_str ⟨c2, _, rfl, by omega, ?_⟩
  refine ⟨by omega, Calls.spliced_nil ⟨PySem.W.kxs_at Nc List.mem_cons_self, ?_⟩⟩
  have ux : x ≠ hp.objs.size := Nat.ne_of_lt (Heap.lt_size hx)
  have n1 : q ≠ x := fun e => Nat.ne_of_lt (lc (x, _) (List.mem_cons_of_mem _ List.mem_cons_self)) e.symm
  have n2 : h₁.objs.size ≠ x := fun e => Nat.ne_of_lt (lb (x, _) List.mem_cons_self) e.symm
  refine PySem.W.kxs_call Fc X0 Nc PySem.F.excBase_ValueError hei List.mem_cons_self (.tail n1 (.tail n2 (.head fun p hm => nomatch hm))) (by show 1 ≤ sizeLine; omega) (fun t' hd Fd Nd ld => ?_)
  refine PySem.ks_wpAt_execs_cons (PySem.ks_wpAt_Assign_Attr (wpAt_of_wpAny (wpAny_Name (wpAny_loadName_local hk h2 Fd.ns v2 ?_) hd2)))
  refine wpAny_Name (wpAny_loadName_local hk h1 Fd.ns v1 ?_) hd1
  have Xd : K.In hd := X0.keeps Fd.keep
  have hxd : hd.get? x = some (PySem.W.excObj C t' none .none) := (Nd (x, PySem.W.excObj C t' none .none) (by simp)).1
  refine PySem.W.set_plain Xd (C := C) (ox := PySem.W.excObj C t' none .none) (od := none) ⟨hxd, rfl, rfl, trivial⟩ hsa ?_
  refine PySem.HandSPX.exc_osa Xd hxd hD hmr hdi hno (fun h5 tk5 dx k5 hdx hne5 hx5 hn5 => ?_)
  refine wpAt_of_wpAny (wpAny_execs_nil ?_)
  refine hR h5 tk5 dx t' (fun b o hb e => k5 b o hb (Fd.keep b o (PySem.W.hideAll_get [x] e (fun z => hb (List.mem_singleton.mp z))))) ?_ hne5 hx5 hn5
  obtain ⟨oL, _, _, hL, _⟩ := Fd.ns
  exact Nat.le_trans (Nat.le_of_lt (Heap.lt_size hL)) hdx
end
end EE
set_option Elab.async false
set_option linter.all false
set_option maxRecDepth 100000
set_option maxHeartbeats 1000000
namespace EE
open PySem PySem.Spec PyProof.Rows L2
structure SupD (P : Program) (w : World) (K : Fg) (mg : Str → Option Value) (C : Addr) (fld c1 c2 : Str) : Prop where
  ei : PySem.W.excInitIn K C [.type "ValueError", .type "Exception", .type "BaseException", .type "object"] "ValueError.__new__" = true
  k : PySem.W.keepIn K (.ref C) = true
  b : PySem.W.subIn K (.ref C) (.type "BaseException") = some true
  t : PySem.W.typeIn K (.ref C) = some (.type "type")
  run : ∃ f : Addr, PySem.W.findIn K (.ref C) "__init__" = some (some (.ref f)) ∧ PySem.W.typeIn K (.ref f) = some (.type "function") ∧
    ∀ (A : Around) (hp : Heap) (g : Array GenState) (dr : Drawn) (t : Nat) (os : OsState) (R : Result → Shared → Prop) (x t0 : Addr) (i : Int) (ti : Tok) (mb : Str → Option Value),
      K.In hp → hp.NoLimit → hp.Ns mainGlobals mg → hp.Ns builtinsNs mb → mb "super" = some (.type "super") → A.depth < recursionLimit → hp.get? x = some (PySem.HandSPX.excO C t0) → K.lookup x = none → i.natAbs.log2 < 1920 → ((Str.empty ++ c1) ++ toString i).length + c2.length ≤ 100000 →
      (∀ (h' : Heap) (tk : Nat) (dx t1 : Addr), (∀ b o, b ≠ x → hp.get? b = some o → h'.get? b = some o) → hp.objs.size ≤ dx → dx ≠ x → h'.get? x = some { cls := .ref C, dict := some dx, data := .fields #[.ref t1, .none, .none, .none, .bool false, .none] } →
        h'.Ns1 dx (fun y => if y = fld then some (.int i ti) else none) → R (.ok (.ret .none)) ⟨h', g, dr, tk, os⟩) →
      codeAny (model P w) A (.call (.ref f) ⟨[.ref x, .int i ti], []⟩) R ⟨hp, g, dr, t, os⟩
def tMkS (C : Addr) (fld c1 c2 : Str) (ta : TA) : L2.St → Hp → XK → Prop := fun σ H Q => ta σ H fun vs H1 => ∃ i : Int, vs = [.int i] ∧ i.natAbs.log2 < 1920 ∧ ((Str.empty ++ c1) ++ toString i).length + c2.length ≤ 100000 ∧ ∀ d, H1 d = none → Q (.ref C) (some d) (upd H1 d (.xd [(fld, .int i)]))
section
variable {X : Cx} {C : Addr} {x fld c1 c2 : Str} {e : Expr} {ta : TA} {p pos : Pos}
theorem pmk_sup (S : SupD X.prog X.w X.K X.mg C fld c1 c2) (hm : X.mg x = some (.ref C)) (hms : X.mg "super" = none) (hr : X.A.depth + 2 < recursionLimit) (hg : Gl X x) (ha : PA X [e] ta) (hdb : (x == ("__debug__" : Str)) = false := by decide)
    (he : starEach [e] X.env = (false, eval e X.env) :: starEach [] X.env := by rfl) (hpl : (backTo pos (starEach [] X.env)).any (·.1) = false := by rfl) : PMk X (.Call (.Name x p) [e] [] pos) (tMkS C fld c1 c2 ta) := by
  intro pins s σ H Q I h
  obtain ⟨f, hf1, hf2, hrun⟩ := S.run
  refine wpAny_Call_Name_kw (ld_glob I hg hm ?_ hdb)
  refine PySem.W.callWith_K (h₀ := X.base) I.ok.mod.kin S.k (thn (ha.run pos pins s σ H _ I h) fun us s1 ⟨vs, H1, I1, r1, i, ev, hi, hl, q⟩ => ⟨I1.kIn, ?_⟩) he hpl
  subst ev
  obtain ⟨u, rfl, ru⟩ := r1.one
  obtain ⟨ti, rfl⟩ := ru
  show wpAny _ _ (call (.ref C) [.int i ti]) _ _ _
  obtain ⟨hp, g, dr, tk, os⟩ := s1
  obtain ⟨nm, N', qn, bs, bm, hdct, sn, sub, ab, col, dd, k0, k1, k2, k3, k5, hC, hT⟩ := PySem.W.excInit_of I1.kIn S.ei
  have kk : ∀ b o, hp.get? b = some o → ((hp.push (PySem.W.kdv_tup [.int i ti])).push (PySem.HandSPX.excO C hp.objs.size)).get? b = some o := fun b o e => Heap.get?_push_of_some _ (Heap.get?_push_of_some _ e)
  have hget : ((hp.push (PySem.W.kdv_tup [.int i ti])).push (PySem.HandSPX.excO C hp.objs.size)).get? (hp.objs.size + 1) = some (PySem.HandSPX.excO C hp.objs.size) := by heap_get
  have nK : X.K.lookup (hp.objs.size + 1) = none := by
    cases z : X.K.lookup (hp.objs.size + 1) with
    | none => rfl
    | some o => exact absurd (Heap.lt_size (I1.kIn _ _ z)) (by show ¬ hp.objs.size + 1 < hp.objs.size; omega)
  obtain ⟨mb, hb1, hb2⟩ := I1.mod.blt
  refine wpAny_call (PySem.HandSPX.call_own PySem.F.excBase_ValueError hT hC (PySem.W.looks_findIn I1.kIn hf1) (fun self => PySem.W.bind_fn I1.kIn self hf2) (by show 1 ≤ sizeLine; rw [sizeLine_eq]; omega)
    (hrun _ _ g dr tk os _ (hp.objs.size + 1) hp.objs.size i ti mb (I1.kIn.keeps kk) ((I1.nolimit).keeps kk) ((I1.mod.glob.keeps I1.bk).keeps kk) ((hb1.keeps I1.bk).keeps kk) (hb2 _ (by decide)) ?_ hget nK hi hl (fun h' tk' dx t1 k hdx hne hx hn => ?_)))
  · rw [make_depth]
    omega
  · refine ⟨rfl, ?_⟩
    obtain ⟨G, g1', g2'⟩ := restrict h' fun b => decide (b ≠ hp.objs.size + 1)
    have gk : ∀ b, b ≠ hp.objs.size + 1 → G.get? b = h'.get? b := fun b hb => g1' b (decide_eq_true hb)
    have ge : G.get? (hp.objs.size + 1) = none := g2' _ (by simp)
    have ne1 : ∀ {b : Addr} {o : Obj}, hp.get? b = some o → b ≠ hp.objs.size + 1 := fun {b o} z e => by
      have := Heap.lt_size z
      rw [e] at this
      exact absurd this (by show ¬ hp.objs.size + 1 < hp.objs.size; omega)
    have sz : hp.objs.size ≤ dx := Nat.le_trans (by rw [Heap.size_push, Heap.size_push]; omega) hdx
    have hnd : H1 dx = none := I1.hok.fresh sz
    have kG : ∀ b o, hp.get? b = some o → G.get? b = some o := fun b o z => by
      rw [gk b (ne1 z)]
      exact k b o (ne1 z) (kk b o z)
    have hnG : G.Ns1 dx (fun y => if y = fld then some (.int i ti) else none) := hn.at fun o z => (gk dx hne).trans z
    have new : ObjOk X.prog X.w (upd H1 dx (.xd [(fld, .int i)])) G dx (.xd [(fld, .int i)]) := ⟨_, hnG, fun y => by
      by_cases hy : y = fld
      · subst hy
        simp [List.lookup]
        exact ⟨ti, rfl⟩
      · have : (y == fld) = false := by simpa using hy
        simp [List.lookup, this, hy]
        exact True.intro⟩
    have J : Inv X pins σ (upd H1 dx (.xd [(fld, .int i)])) ⟨G, g, dr, tk', os⟩ := I1.laid (t' := tk') (a := dx) (o := .xd [(fld, .int i)]) (h' := G) kG sz new
    refine ⟨hp.objs.size + 1, _, _, ⟨G, g, dr, tk', os⟩, _, .ref C, some dx, rfl, J, fun b o z => ?_, ge, hx, ⟨rfl, rfl⟩, rfl, rfl, ?_, rfl, I1.bare, raises_own S.b S.t, q dx hnd⟩
    · by_cases hb : b = hp.objs.size + 1
      · rw [hb, ge] at z; cases z
      · exact (gk b hb).symm.trans z
    · rw [upd_ne (Ne.symm hne)]
      exact I1.hok.fresh (Nat.le_succ _)
def dRaiseN (c : Nat) (c1 c2 : Str) (a : DE) : DS := fun es h => (a es h).bind fun x h1 => match x with
  | .int i => if i.natAbs.log2 < 1920 ∧ ((Str.empty ++ c1) ++ toString i).length + c2.length ≤ 100000 then .er ⟨c, [.int i]⟩ h1 else .no
  | _ => .no
theorem xs_raiseN {ct : Nat → Addr × List Str} {E : XK} {d : DE} {k : Nat} {p2 : Pos} (c : Nat) (S : SupD X.prog X.w X.K X.mg (ct c).1 fld c1 c2) (hn : (ct c).2 = [fld]) (hm : X.mg x = some (.ref (ct c).1)) (hms : X.mg "super" = none) (hr : Room k X.A) (hc : X.calm = true) (tk : TkE X E) (hg : Gl X x) (hd : PEd X ct E e d)
    (hdb : (x == ("__debug__" : Str)) = false := by decide) (he : starEach [e] X.env = (false, eval e X.env) :: starEach [] X.env := by rfl) (hpl : (backTo pos (starEach [] X.env)).any (·.1) = false := by rfl) :
    PSd X ct E (.Raise (some (.Call (.Name x p) [e] [] pos)) none p2) (dRaiseN c c1 c2 d) := by
  obtain ⟨t, a1, a2⟩ := hd
  refine ⟨_, ps_raise hc tk (pmk_sup S hm hms (by have := hr.dp; omega) hg (pa_cons a1 pa_nil he) hdb he hpl), fun ρ σ H es eh D rel h => ?_⟩
  refine a2.bind rel h fun ρ1 H1 y eh1 u e1 rel1 v1 h1 => ?_
  split at h1
  · rename_i i
    split at h1
    · rename_i hh
      refine ⟨i, by rw [vr_int.mp v1], hh.1, hh.2, fun dd hd => ?_⟩
      have e3 : Ext X.K ρ1 ρ1 H1 (upd H1 dd (.xd [(fld, .int i)])) := Ext.side _ hd
      refine h1 ρ1 _ _ _ e3 (rel1.hr.side _ hd) ⟨rfl, dd, [.int i], rfl, ?_, VRs.one (vr_int.mpr rfl), ?_⟩
      · rw [upd_same, hn]
        rfl
      · rw [hn]
        rfl
    · exact h1.elim
  · exact h1.elim
end
end EE
set_option Elab.async false
set_option linter.all false
set_option maxRecDepth 100000
set_option maxHeartbeats 1000000
namespace EE
open PySem PySem.Spec PyProof.Rows L2
theorem tabs_more {T : List (Addr × Str)} {H : Hp} {P c' : Addr} {q : Str} {ps : Array Value} {pos : Pos} (hT : LamX.Tabs T H) (hm : (P, q) ∈ T) (hu : ∀ p ∈ T, p.1 = P → p.2 = q) (hP : H P = some (.tbl ps)) (nC : H c' = none) :
    LamX.Tabs T (upd (upd H P (.tbl (ps ++ #[rawInt pos.line, rawInt pos.col, .ref c']))) c' (LamX.CodeO c' q)) ∧ LamX.ExtN H (upd (upd H P (.tbl (ps ++ #[rawInt pos.line, rawInt pos.col, .ref c']))) c' (LamX.CodeO c' q)) := by
  have stay : LamX.ExtN H (upd (upd H P (.tbl (ps ++ #[rawInt pos.line, rawInt pos.col, .ref c']))) c' (LamX.CodeO c' q)) := by
    intro b o e n
    have h1 : b ≠ c' := ne_of_none e nC
    have h2 : b ≠ P := by
      rintro rfl
      rw [hP] at e
      exact n ps (Option.some.inj e).symm
    rw [upd_ne h1, upd_ne h2, e]
  refine ⟨?_, stay⟩
  rintro ⟨a, r⟩ hp
  by_cases ha : a = P
  · subst ha
    obtain rfl : r = q := hu _ hp rfl
    obtain ⟨ps0, g1, g2, g3⟩ := hT _ hp
    simp only at g1
    rw [hP] at g1
    cases g1
    have hL : (ps ++ #[rawInt pos.line, rawInt pos.col, Value.ref c']).toList = ps.toList ++ [rawInt pos.line, rawInt pos.col, .ref c'] := by simp
    refine ⟨ps ++ #[rawInt pos.line, rawInt pos.col, .ref c'], ?_, ?_, ?_⟩
    · show upd _ _ _ a = _
      rw [upd_ne (ne_of_none hP nC), upd_same]
    · rw [hL]; exact PySem.TriplesOk_snoc _ _ _ _ g2
    · intro p2 cv hcv
      rw [hL] at hcv
      cases LamX.among_app _ g2 hcv with
      | inl z =>
        obtain ⟨c0, e1, e2⟩ := g3 p2 cv z
        exact ⟨c0, e1, stay _ _ e2 LamX.codeO_ne⟩
      | inr z => exact ⟨c', z, upd_same⟩
  · obtain ⟨ps0, g1, g2, g3⟩ := hT _ hp
    simp only at g1
    refine ⟨ps0, ?_, g2, fun p2 cv hcv => ?_⟩
    · show upd _ _ _ a = _
      rw [upd_ne (ne_of_none g1 nC), upd_ne ha, g1]
    · obtain ⟨c0, e1, e2⟩ := g3 p2 cv hcv
      exact ⟨c0, e1, stay _ _ e2 LamX.codeO_ne⟩
structure AllSc (sc scope : Scope) (x d : Str) : Prop where
  kind : scope.kind = .function
  co : scope.isCoroutine = false
  cell : ∀ y ∈ scope.names, y.2 ≠ .cell
  dot : scope.names.lookup (".0" : Str) = some NameKind.local
  loc : scope.names.lookup x = some .local
  held : scope.names.lookup d = some .free
  free : ∀ y ∈ scope.names, y.2 = .free → sc.names.lookup y.1 = some .cell ∨ sc.names.lookup y.1 = some .free
def allScB (sc scope : Scope) (x d : Str) : Bool :=
  decide (scope.kind = .function) && !scope.isCoroutine && (scope.names.all fun y => !decide (y.2 = .cell)) && decide (scope.names.lookup (".0" : Str) = some NameKind.local) &&
    decide (scope.names.lookup x = some .local) && decide (scope.names.lookup d = some .free) && scope.names.all fun y => !decide (y.2 = .free) || (decide (sc.names.lookup y.1 = some .cell) || decide (sc.names.lookup y.1 = some .free))
theorem allSc_by {sc scope : Scope} {x d : Str} (h : allScB sc scope x d = true) : AllSc sc scope x d := by
  unfold allScB at h
  simp only [Bool.and_eq_true, Bool.or_eq_true, Bool.not_eq_true', decide_eq_true_eq, decide_eq_false_iff_not, List.all_eq_true] at h
  obtain ⟨⟨⟨⟨⟨⟨h1, h2⟩, h3⟩, h4⟩, h5⟩, h6⟩, h7⟩ := h
  refine ⟨h1, h2, h3, h4, h5, h6, fun y hy e => ?_⟩
  rcases h7 y hy with z | z
  · exact absurd e z
  · exact z
def truAt (f : V → Bool) (vs : List V) (i : Nat) : Bool := match vs[i]? with | some v => f v | none => false
theorem truAt_all (f : V → Bool) (vs : List V) : (List.range vs.length).all (truAt f vs) = vs.all f := by
  rw [Bool.eq_iff_iff, List.all_eq_true, List.all_eq_true]
  constructor
  · intro h v hv
    obtain ⟨i, hi, e⟩ := List.getElem_of_mem hv
    have q := h i (List.mem_range.mpr hi)
    unfold truAt at q
    rw [List.getElem?_eq_getElem hi, e] at q
    exact q
  · intro h i hi
    have hi' := List.mem_range.mp hi
    unfold truAt
    rw [List.getElem?_eq_getElem hi']
    exact h _ (List.getElem_mem hi')
section
variable {X : Cx} {pins : List (Addr × Obj)} {σ : L2.St} {H : Hp} {s : Shared}
def InTest (X : Cx) (P dd : Addr) (f : V → Bool) (vs : List V) (s1 : Shared) : Prop :=
  ∀ (A' : Around) (E' : Value → Shared → Prop) (v : V) (u : Value) (s₂ : Shared), v ∈ vs → RelV v u → (∀ b o, b ≠ P → s1.heap.get? b = some o → s₂.heap.get? b = some o) →
    wpAny (model X.prog X.w) A' (compareOp .In u (.ref dd)) (fun y s₃ => y = .bool (f v) ∧ Keeps s₂ s₃) E' s₂
def GenReady (X : Cx) (pins : List (Addr × Obj)) (σ : L2.St) (T : List (Addr × Str)) (H1 : Hp) (vs : List V) (f : V → Bool) (g : Addr) (s5 : Shared) : Prop :=
  ∃ (fp wr : List Addr) (G : Array GenState → Array GenState → Prop) (F : Nat → Value → Prop) (St : Nat → Shared → Prop),
    WalksS X.prog X.w X.A.in1 g fp wr G vs.length F St ∧ St 0 s5 ∧ TruthOf X.prog X.w X.A.in1 F (truAt f vs) ∧
    ∀ s', Moved wr G s5 s' → ∃ H2, LamX.ExtN H1 H2 ∧ LamX.Tabs T H2 ∧ Inv X pins σ H2 s'
theorem gen_in {T : List (Addr × Str)} {c P : Addr} {iter : Expr} {x dn : Str} {px gpos p1 p2 p3 : Pos} {scope : Scope} {te : TE} {k iD : Nat} {Q' : Value → Shared → Prop} {R : List V → (V → Bool) → Hp → Prop}
    (hr : Room k X.A) (TB : LamX.TabB X.base X.mg c P) (hcode : X.env.code = .ref c) (hmT : (P, X.env.qual ++ "<genexpr>") ∈ T) (hu : ∀ p ∈ T, p.1 = P → p.2 = X.env.qual ++ "<genexpr>") (S : AllSc X.env.scope scope x dn) (hN : X.N[iD]? = some dn) (hi : PE X iter te)
    (hs : ∀ v, genFold iter X.env v = pure v) (I : Inv X pins σ H s)
    (h : te σ H fun v H1 => LamX.Tabs T H1 ∧ ∃ (L dd : Addr) (vs : List V) (f : V → Bool), v = .ref L ∧ SqL X.K H1 L vs ∧ σ[iD]? = some (some (.ref dd)) ∧ (∀ pins s1, Inv X pins σ H1 s1 → InTest X P dd f vs s1) ∧ R vs f H1)
    (hQ : ∀ vs f H1 g s5, R vs f H1 → GenReady X pins σ T H1 vs f g s5 → Q' (.ref g) s5)
    (hdx : (x == ("__debug__" : Str)) = false := by decide) (hdd : (dn == ("__debug__" : Str)) = false := by decide) (hdc : (dn == ("__classdict__" : Str)) = false := by decide) :
    wpAny (model X.prog X.w) X.A (eval (.GeneratorExp (.Compare (.Name x p1) [.In] [.Name dn p2] p3) [⟨.Name x px, iter, [], 0⟩] scope gpos) X.env) Q' X.xe s := by
  have hfree : ∀ y ∈ scope.names, y.2 = .free → ∃ c, X.env.cells.lookup y.1 = some c := fun y hy e => by
    rcases S.free y hy e with z | z
    · exact I.ok.has _ (.inl z)
    · exact I.ok.has _ (.inr z)
  refine wpAny_GeneratorExp_walksQ hr.hd S.co (closure_ok hfree) S.cell S.dot S.loc S.kind (by have := hr.dp; omega) ?_ hs
  refine thn (hi.run pins s σ H _ I h) fun xv s1 ⟨v, H1, I1, r1, tT, L, dd, vs, f, ev, hL, hσ, hin, q1⟩ => ?_
  subst ev
  obtain rfl : xv = Value.ref L := r1
  obtain ⟨ps, hP, ht, ha⟩ := tT _ hmT
  simp only at hP
  have hin := hin pins s1 I1
  obtain ⟨its, rv, hl, hz⟩ := I1.list hL
  have hIL := hl.isList
  have hlen : its.length = vs.length := rv.length.symm
  have hat : ∀ (i : Nat) (u : Value), its.toArray[i]? = some u → ∃ v, vs[i]? = some v ∧ RelV v u := fun i u hv => by
    have hv2 : its[i]? = some u := by simpa using hv
    have hi2 : i < vs.length := by
      have := (List.getElem?_eq_some_iff.mp hv2).1
      omega
    obtain ⟨w', g1, g2⟩ := rv.get (List.getElem?_eq_getElem hi2)
    rw [hv2] at g1
    cases g1
    exact ⟨_, List.getElem?_eq_getElem hi2, g2⟩
  refine wpAny_pyIter_list hIL ?_
  generalize ho : ({ cls := .type "list_iterator", data := .fields #[.ref L, .int 0 0] } : Obj) = o
  have hitr : (s1.heap.push o).IsListIter s1.heap.objs.size L 0 := by
    subst ho
    exact ⟨_, Heap.get?_push_size _ rfl, rfl, rfl⟩
  have hLlt : L < s1.heap.objs.size := let ⟨_, e, _⟩ := hIL; Heap.lt_size e
  have hPs : s1.heap.get? P = some { cls := .none, data := .fields ps } := I1.hok P _ hP
  have hPlt : P < s1.heap.objs.size := Heap.lt_size hPs
  have hP2 : (s1.heap.push o).get? P = some { cls := .none, data := .fields ps } := Heap.get?_push_of_some _ hPs
  have cd : PySem.W.CodeHd (s1.heap.push o) c P := TB.code.keeps fun b u e => Heap.get?_push_of_some _ (I1.bk b u e)
  have lim2 : (s1.heap.push o).NoLimit := I1.nolimit.push o
  have sz2 : (s1.heap.push o).objs.size = s1.heap.objs.size + 1 := Heap.size_push ..
  have cont : ∀ (code : Value) (h3 : Heap) (tk : Nat), Heap.ExtBut P (s1.heap.push o) h3 → (s1.heap.push o).objs.size ≤ h3.objs.size →
      (∀ (s' : Shared) (wr : List Addr), (∀ b u, b ∉ wr → h3.get? b = some u → s'.heap.get? b = some u) → (∀ b ∈ wr, b = s1.heap.objs.size ∨ h3.objs.size ≤ b) → AllBare s'.gens → s'.os = s1.os → ∃ H2, LamX.ExtN H1 H2 ∧ LamX.Tabs T H2 ∧ Inv X pins σ H2 s') →
      wpAny (model X.prog X.w) X.A (builtinsFor X.env.globals X.env.builtins) (fun bi s₄ =>
        ∃ Ia fp wr n₀ Pf St₀ pz F, Value.ref s1.heap.objs.size = .ref Ia ∧ (∀ A' : Around, A'.handled = none → Walks X.prog X.w A' Ia fp wr n₀ Pf St₀) ∧ St₀ 0 s₄.heap ∧ (∀ b ∈ fp, b < s₄.heap.objs.size) ∧ s₄.heap.NoLimit ∧ cStatics ∉ wr ∧
          (∀ href : Heap, (∀ b o, s₄.heap.get? b = some o → href.get? b = some o) →
            QuietGen X.prog X.w (genEnv scope (cloFrom X.env.cells scope.names []) s₄.heap.objs.size code bi X.env) x [] (.Compare (.Name x p1) [.In] [.Name dn p2] p3) (List.range s₄.heap.objs.size) wr Pf pz F href) ∧
          (∀ a h₅ tk gs, gs.bare = true → s₄.heap.objs.size < a → h₅.objs.size = a + 1 → (∀ b o, s₄.heap.get? b = some o → h₅.get? b = some o) →
            WalksS X.prog X.w X.A.in4 a (a :: s₄.heap.objs.size :: List.range s₄.heap.objs.size) (s₄.heap.objs.size :: wr) (GenOnlyQ s₄.gens.size) (passing pz n₀ 0).length
              (fun j y => ∃ i, (passing pz n₀ 0)[j]? = some i ∧ F i y) (GenAt X.prog X.w X.A.in4 a s₄.gens.size s₄.heap.objs.size (List.range s₄.heap.objs.size) wr pz n₀ F) →
            GenAt X.prog X.w X.A.in4 a s₄.gens.size s₄.heap.objs.size (List.range s₄.heap.objs.size) wr pz n₀ F 0 { s₄ with gens := s₄.gens.push gs, toks := tk, heap := h₅ } →
            Q' (.ref a) { s₄ with gens := s₄.gens.push gs, toks := tk, heap := h₅ })) X.xe { s1 with heap := h3, toks := tk } := by
    intro code h3 tk hx hsz hend
    obtain ⟨bm, ob, e1, e2, e3, e4, e5, e6, e7, e8⟩ := TB.bm
    have hcP : cStatics ≠ P := fun e => by
      obtain ⟨_, hns, _⟩ := I1.nolimit
      obtain ⟨o', es, ep, ho, hd, _⟩ := hns
      rw [e, hPs] at ho
      cases ho
      cases hd
    have hcl : cStatics < s1.heap.objs.size := let ⟨_, hns, _⟩ := I1.nolimit; hns.lt
    have keep3 : ∀ b u, b ≠ P → s1.heap.get? b = some u → h3.get? b = some u := fun b u hb e => hx b u hb (Heap.get?_push_of_some _ e)
    refine wpAny_builtinsFor (m := X.mg) (by rw [I1.ok.glob]; exact ((I1.mod.glob.keeps I1.bk).push o).extBut hx TB.gP) e1 e2 (keep3 _ _ e4 (I1.bk _ _ e5)) e6 e7 e8 ?_
    have hLP : L ≠ P := fun z => by
      obtain ⟨_, e, hc1, _, hd1⟩ := _root_.id hIL
      rw [z, hPs] at e
      cases e
      cases hd1
    have hIL3 : h3.IsList L its.toArray := let ⟨ob, e, r⟩ := hIL; ⟨ob, keep3 _ _ hLP e, r⟩
    have hItr3 : h3.IsListIter s1.heap.objs.size L 0 := hitr.at fun u e => hx _ u (Nat.ne_of_gt hPlt) e
    have hlt3 : s1.heap.objs.size < h3.objs.size := by omega
    refine ⟨s1.heap.objs.size, [s1.heap.objs.size, L], [s1.heap.objs.size], its.toArray.size, (fun i v => its.toArray[i]? = some v), (fun i h => h.IsListIter s1.heap.objs.size L i ∧ h.IsList L its.toArray), (fun _ => true),
      (fun i y => y = .bool (truAt f vs i) ∧ i < vs.length), rfl, (fun A' hA => Walks.list hA _ _ (Nat.ne_of_lt hLlt) _), ⟨hItr3, hIL3⟩, ?_, lim2.extBut hx hcP, ?_, ?_, ?_⟩
    · intro b hb
      simp only [List.mem_cons, List.not_mem_nil, or_false] at hb
      show b < h3.objs.size
      rcases hb with z | z
      · rw [z]; exact hlt3
      · rw [z]; exact Nat.lt_trans hLlt hlt3
    · intro z
      simp only [List.mem_cons, List.not_mem_nil, or_false] at z
      exact Nat.ne_of_lt hcl z
    · intro href hhref
      refine ⟨fun A' E' i v s₂ m₂ hA hPv hn hm hk => ?_, fun A' E' i v s₂ m₂ hA hPv hp hn hm hk => ?_⟩
      · simp only [List.forIn_nil]
        exact wpAny_pure ⟨rfl, GxR.keeps_refl _⟩
      · obtain ⟨y, hy, ry⟩ := hat i v hPv
        have hi2 : i < vs.length := (List.getElem?_eq_some_iff.mp hy).1
        have kp2 : ∀ b o, b ≠ P → s1.heap.get? b = some o → s₂.heap.get? b = some o := fun b o hb e =>
          hk b (List.mem_range.mpr (Nat.lt_trans (Heap.lt_size e) hlt3)) (fun z => by
            simp only [List.mem_cons, List.not_mem_nil, or_false] at z
            exact Nat.ne_of_lt (Heap.lt_size e) z) o (hhref b o (keep3 b o hb e))
        have hvis : Vis X.env.scope dn := (S.free _ (PySem.mem_of_lookup S.held) rfl).elim (fun z => .inr (.inl z)) (fun z => .inr (.inr z))
        obtain ⟨m, hnm, hloc⟩ := I1.loc
        obtain ⟨w', rw', hc'⟩ := hloc iD dn (.ref dd) hN hσ hvis
        obtain rfl : w' = Value.ref dd := rw'
        have hdl : X.env.scope.names.lookup dn = some .cell ∨ X.env.scope.names.lookup dn = some .free := S.free _ (PySem.mem_of_lookup S.held) rfl
        obtain ⟨c0, hc0⟩ : ∃ c, (cloFrom X.env.cells scope.names []).lookup dn = some c := by
          obtain ⟨c, hc⟩ := hfree _ (PySem.mem_of_lookup S.held) rfl
          exact mem_lookup (cloFrom_has (cells := X.env.cells) (acc := []) (PySem.mem_of_lookup S.held))
        have hc1 : X.env.cells.lookup dn = some c0 := by
          rcases cloFrom_mem (PySem.mem_of_lookup hc0) with z | ⟨z1, z2⟩
          · cases z
          · obtain ⟨c, hc⟩ := hfree _ z1 rfl
            have hc : X.env.cells.lookup dn = some c := hc
            have e2 : c0 = c := by rw [z2, hc]; rfl
            rw [e2]
            exact hc
        have hcell : s1.heap.IsCell c0 (some (.ref dd)) := by
          rcases hc' with ⟨k', _⟩ | ⟨_, c3, e', z⟩
          · have k' : X.env.scope.names.lookup dn = some .local := k'
            rcases hdl with k2 | k2 <;> rw [k2] at k' <;> cases k'
          · rw [hc1] at e'
            cases e'
            exact z
        have hcP2 : c0 ≠ P := fun z => by
          obtain ⟨_, e, hd⟩ := hcell
          rw [z, hPs] at e
          cases e
          cases hd
        have hcell2 : s₂.heap.IsCell c0 (some (.ref dd)) := by
          obtain ⟨ob, e, hd⟩ := hcell
          exact ⟨ob, kp2 _ _ hcP2 e, hd⟩
        refine wpAny_Compare1 ?_
        refine wpAny_Name (wpAny_loadName_local S.kind S.loc hn hm ?_) hdx
        refine wpAny_Name (wpAny_loadName_free S.kind S.held hc0 hcell2 ?_ hdc) hdd
        refine wpAny_mono (hin A' E' y v s₂ (List.mem_of_getElem? hy) ry kp2) (fun r s₃ hr3 => ?_) fun _ _ e => e
        obtain ⟨hr1, hr2⟩ := hr3
        refine ⟨⟨?_, hi2⟩, hr2⟩
        rw [hr1]
        unfold truAt
        rw [hy]
    · intro g h5 tk5 gs hgb hag hsz5 hk5 W5 hgat
      simp only [GxR.passing_true, List.length_range] at W5
      have hn5 : its.toArray.size = vs.length := by rw [List.size_toArray, hlen]
      rw [hn5] at W5 hgat
      refine hQ vs f H1 g _ q1 ⟨_, _, _, _, _, W5.in4_1, hgat, ?_, fun s' hm => ?_⟩
      · intro j y sj Qj Ej hy hQj
        obtain ⟨i, hij, rfl, hlt⟩ := hy
        obtain ⟨hj, ej⟩ := List.getElem?_eq_some_iff.mp hij
        rw [List.getElem_range] at ej
        subst ej
        exact wpAny_truthy_bool hQj
      · refine hend s' _ (fun b u hb e => hm.heap b u hb (hk5 b u e)) (fun b hb => ?_) (AllBare.movedS (I1.bare.push hgb) hm) hm.os
        rcases List.mem_cons.mp hb with z | z
        · right; rw [z]; exact Nat.le_refl _
        · left
          simpa using z
  refine ⟨lim2, ?_⟩
  have goOn : ∀ {h3 : Heap} {ps' : Array Value} {H2 : Hp} {s' : Shared} {wr : List Addr}, (∀ b u, b ≠ P → s1.heap.get? b = some u → h3.get? b = some u) → s1.heap.objs.size + 1 ≤ h3.objs.size → (∀ b u, b ∉ wr → h3.get? b = some u → s'.heap.get? b = some u) → (∀ b ∈ wr, b = s1.heap.objs.size ∨ h3.objs.size ≤ b) →
      (∀ b u, b ≠ P → s1.heap.get? b = some u → s'.heap.get? b = some u) := fun {h3 ps' H2 s' wr} k3 hz k5 hw b u hb e => by
    refine k5 b u (fun z => ?_) (k3 b u hb e)
    have hlt := Heap.lt_size e
    rcases hw b z with z2 | z2
    · rw [z2] at hlt; exact Nat.lt_irrefl _ hlt
    · have : s1.heap.objs.size + 1 ≤ b := Nat.le_trans hz z2
      exact Nat.lt_irrefl _ (Nat.lt_of_lt_of_le hlt (Nat.le_of_succ_le this))
  cases hf : codeAmong gpos ps.toList with
  | none =>
    refine wpAny_genexprCodeX hcode (cd.code hP2 ht) (cd.tab hP2) hf fun c' h' tk hx hge hlt hco' hrec htab' _ => ?_
    obtain ⟨c2, oc, ovs, t, e2, hoc, hd, hv⟩ := hrec
    cases e2
    have hge1 : s1.heap.objs.size + 1 ≤ c' := by rw [← sz2]; exact hge
    refine cont _ h' tk hx (Nat.le_trans hge (Nat.le_of_lt hlt)) fun s' wr k5 hw hb hos => ?_
    have k3 : ∀ b u, b ≠ P → s1.heap.get? b = some u → h'.get? b = some u := fun b u hb e => hx b u hb (Heap.get?_push_of_some _ e)
    have hz : s1.heap.objs.size + 1 ≤ h'.objs.size := Nat.le_trans hge1 (Nat.le_of_lt hlt)
    have nw : ∀ b, b < h'.objs.size → b ≠ s1.heap.objs.size → b ∉ wr := fun b h1 h2 z => by
      rcases hw b z with z | z
      · exact h2 z
      · exact Nat.lt_irrefl _ (Nat.lt_of_lt_of_le h1 z)
    have nC : H1 c' = none := I1.hok.fresh (Nat.le_of_succ_le hge1)
    have I2 := LamX.inv_table (t' := s'.toks) (more := #[rawInt gpos.line, rawInt gpos.col, .ref c']) (h' := s'.heap) (q := X.env.qual ++ "<genexpr>") I1 hP (goOn (ps' := ps) (H2 := H1) k3 hz k5 hw)
      (k5 P _ (nw P (Nat.lt_of_lt_of_le hPlt (Nat.le_of_succ_le hz)) (Nat.ne_of_lt hPlt)) htab'.2) (Nat.le_of_succ_le hge1) ⟨oc, ovs, t, k5 c' _ (nw c' hlt (Nat.ne_of_gt hge1)) hoc, hd, hv⟩
    obtain ⟨t1, t2⟩ := tabs_more (pos := gpos) tT hmT hu hP nC
    refine ⟨_, t2, t1, ?_⟩
    have nPc : P ≠ c' := ne_of_none hP nC
    have J := GxR.inv_tab (more := #[]) (h' := s'.heap) (g' := s'.gens) (d' := s'.drawn) (t' := s'.toks) (P := P) I2 (by rw [upd_ne nPc, upd_same]) (fun b u _ e => e) (by rw [Array.append_empty]; exact I2.hok P _ (by rw [upd_ne nPc, upd_same])) hb
    rw [Array.append_empty] at J
    have eH : upd (upd (upd H1 P (.tbl (ps ++ #[rawInt gpos.line, rawInt gpos.col, .ref c']))) c' (LamX.CodeO c' (X.env.qual ++ "<genexpr>"))) P (.tbl (ps ++ #[rawInt gpos.line, rawInt gpos.col, .ref c'])) = upd (upd H1 P (.tbl (ps ++ #[rawInt gpos.line, rawInt gpos.col, .ref c']))) c' (LamX.CodeO c' (X.env.qual ++ "<genexpr>")) := by
      funext b
      unfold upd
      by_cases h1 : b = P
      · subst h1; simp [nPc]
      · simp [h1]
    rw [eH] at J
    have J2 := GxR.sh_eta s1 s' hos
    rw [← J2]
    exact J
  | some cv =>
    refine wpAny_genexprCode_hit hcode (cd.code hP2 ht) hf ?_
    refine cont cv (s1.heap.push o) s1.toks (Heap.ExtBut.refl _ _) (Nat.le_refl _) fun s' wr k5 hw hb hos => ?_
    refine ⟨H1, LamX.ExtN.refl H1, tT, ?_⟩
    have hz : s1.heap.objs.size + 1 ≤ (s1.heap.push o).objs.size := Nat.le_of_eq sz2.symm
    have kk := goOn (ps' := ps) (H2 := H1) (s' := s') (wr := wr) (h3 := s1.heap.push o) (fun b u _ e => Heap.get?_push_of_some _ e) hz k5 hw
    have kP : s'.heap.get? P = some { cls := .none, data := .fields ps } := k5 P _ (fun z => by
      rcases hw P z with z | z
      · exact Nat.ne_of_lt hPlt z
      · exact Nat.lt_irrefl _ (Nat.lt_of_lt_of_le hPlt (Nat.le_trans (Nat.le_of_succ_le hz) z))) hP2
    have J := GxR.inv_tab (more := #[]) (h' := s'.heap) (g' := s'.gens) (d' := s'.drawn) (t' := s'.toks) (P := P) I1 hP kk (by rw [Array.append_empty]; exact kP) hb
    rw [Array.append_empty] at J
    have eH : upd H1 P (.tbl ps) = H1 := by
      funext b
      unfold upd
      by_cases h1 : b = P
      · subst h1; simp [hP]
      · simp [h1]
    rw [eH] at J
    rw [← GxR.sh_eta s1 s' hos]
    exact J
def tAllIn (X : Cx) (T : List (Addr × Str)) (P : Addr) (iD : Nat) (te : TE) : TE := fun σ H Q => te σ H fun v H1 => LamX.Tabs T H1 ∧ ∃ (L dd : Addr) (vs : List V) (f : V → Bool), v = .ref L ∧ SqL X.K H1 L vs ∧ σ[iD]? = some (some (.ref dd)) ∧
  (∀ pins s1, Inv X pins σ H1 s1 → InTest X P dd f vs s1) ∧ ∀ H2, LamX.ExtN H1 H2 → LamX.Tabs T H2 → Q (.bl (vs.all f)) H2
theorem pe_allIn {T : List (Addr × Str)} {c P : Addr} {iter : Expr} {x dn : Str} {px gpos p1 p2 p3 p pos : Pos} {scope : Scope} {te : TE} {k iD : Nat}
    (hr : Room k X.A) (hg : Gl X "all") (hm : X.mg "all" = none) (hb : bootBuiltins "all" = some (.builtin "all")) (TB : LamX.TabB X.base X.mg c P) (hcode : X.env.code = .ref c) (hmT : (P, X.env.qual ++ "<genexpr>") ∈ T) (hu : ∀ p ∈ T, p.1 = P → p.2 = X.env.qual ++ "<genexpr>")
    (S : AllSc X.env.scope scope x dn) (hN : X.N[iD]? = some dn) (hi : PE X iter te) (hs : ∀ v, genFold iter X.env v = pure v)
    (he : starEach [.GeneratorExp (.Compare (.Name x p1) [.In] [.Name dn p2] p3) [⟨.Name x px, iter, [], 0⟩] scope gpos] X.env = (false, eval (.GeneratorExp (.Compare (.Name x p1) [.In] [.Name dn p2] p3) [⟨.Name x px, iter, [], 0⟩] scope gpos) X.env) :: starEach [] X.env := by rfl)
    (hdx : (x == ("__debug__" : Str)) = false := by decide) (hdd : (dn == ("__debug__" : Str)) = false := by decide) (hdc : (dn == ("__classdict__" : Str)) = false := by decide) :
    PE X (.Call (.Name "all" p) [.GeneratorExp (.Compare (.Name x p1) [.In] [.Name dn p2] p3) [⟨.Name x px, iter, [], 0⟩] scope gpos] [] pos) (tAllIn X T P iD te) := by
  refine ⟨fun pins s σ H Q I h => ?_⟩
  refine wpAny_Call_Name_kw (ld_blt I hg hm hb ?_)
  refine PyProof.Rows.callWith_builtin1 ?_ he (by rfl)
  rw [he]
  show wpAny _ _ (spliced ((false, eval (.GeneratorExp _ _ scope gpos) X.env) :: backTo pos (starEach [] X.env))) _ _ s
  refine Calls.spliced_cons (gen_in (R := fun vs f H1 => ∀ H2, LamX.ExtN H1 H2 → LamX.Tabs T H2 → Q (.bl (vs.all f)) H2) hr TB hcode hmT hu S hN hi hs I h (fun vs f H1 g s5 hR hG => ?_) hdx hdd hdc)
  · obtain ⟨fp, wr, G, F, St, W, hst, htr, hI⟩ := hG
    refine Calls.spliced_nil ?_
    refine call_all_walkS (W.self 0 _ _ _ hst ⟨g, fp, wr, G, _, F, St, _, rfl, W, hst, htr, fun s' hmv => ?_⟩)
    obtain ⟨H2, h1, h2, J⟩ := hI s' hmv
    refine ⟨.bl _, H2, J, rfl, ?_⟩
    rw [truAt_all]
    exact hR H2 h1 h2
end
def inAllE (kvs : List (EV × EV)) : List EV → Option Bool
  | [] => some true
  | w :: r => match dgetE false kvs w, inAllE kvs r with
    | some o, some b => some (o.isSome && b)
    | _, _ => none
def dAllIn (iD : Nat) (d : DE) : DE := fun es h => (d es h).bind fun v h1 => match v, es[iD]? with
  | .ref n, some (some (.ref m)) => match lstAt h1 n, dicAt h1 m with
    | some ws, some (false, kvs) => match inAllE kvs ws with
      | some b => .ok (.bl b) h1
      | none => .no
    | _, _ => .no
  | .ref n, some (some (.tup ys)) => match lstAt h1 n with
    | some ws => match intsE ws, intsE ys with
      | some l, some m => .ok (.bl (l.all fun i => decide (i ∈ m))) h1
      | _, _ => .no
    | none => .no
  | _, _ => .no
def isK (l : List (Key × V)) (v : V) : Bool := match v with
  | .int i => (valV l (.inl i)).isSome
  | .str x => (valV l (.inr x)).isSome
  | _ => false
theorem isK_k (l : List (Key × V)) (k : Key) : isK l (kV k) = (valV l k).isSome := by cases k <;> rfl
section
variable {X : Cx} {ct : Nat → Addr × List Str} {E : XK}
theorem inAll_of {ρ : Rho} {H : Hp} {kvs : List (EV × EV)} {l : List (Key × V)} (hk : KR keyOf (VR X.K ρ H) kvs l) :
    ∀ {ws : List EV} {vs : List V} {b : Bool}, inAllE kvs ws = some b → VRs X.K ρ H ws vs → (∀ v ∈ vs, ∃ k, v = kV k) ∧ vs.all (isK l) = b := by
  intro ws
  induction ws with
  | nil =>
    intro vs b h hv
    obtain rfl := vrs_nil.mp hv
    cases h
    exact ⟨(fun v hv => nomatch hv), rfl⟩
  | cons w r ih =>
    intro vs b h hv
    obtain ⟨y, t, rfl, h1, h2⟩ := vrs_cons.mp hv
    unfold inAllE at h
    split at h
    · rename_i o b2 e1 e2
      cases h
      obtain ⟨g1, g2⟩ := ih e2 h2
      obtain ⟨k, e4, rfl⟩ := Option.map_eq_some_iff.mp e1
      have ek := keyOf_eq e4 h1
      have ev := (hk.val k).isSome
      refine ⟨fun v hv => ?_, ?_⟩
      · rcases List.mem_cons.mp hv with rfl | hv
        · exact ⟨k, ek⟩
        · exact g1 v hv
      · rw [List.all_cons, g2, ek, isK_k, ← ev]
    · cases h
theorem dk_test {P dd : Addr} {vs : List V} {H : Hp} {σ : L2.St} {pins : List (Addr × Obj)} {s1 : Shared} {l : List (Key × V)} (I : Inv X pins σ H s1) (hd : Rd H dd (.dK l)) (hP : ∃ ps, H P = some (.tbl ps)) (hk : ∀ v ∈ vs, ∃ k, v = kV k) : InTest X P dd (isK l) vs s1 := by
  intro A' E' v u s₂ hv rv kp
  obtain ⟨k, rfl⟩ := hk v hv
  obtain ⟨hz, hn, ws, rel, hdd⟩ := dk_rd I.hok hd
  have hdP : dd ≠ P := by
    rintro rfl
    obtain ⟨ps, hP⟩ := hP
    rcases hd with z | ⟨o, z⟩ <;> rw [hP] at z <;> cases z
  have hd2 : s₂.heap.DictOf (mixKind X.prog X.w) dd ws := by
    obtain ⟨o, es, ep, ho, r⟩ := hdd
    exact ⟨o, es, ep, kp _ _ hdP ho, r⟩
  refine wpAny_in_of (kV_is rv) hn hd2.mapOf ⟨?_, GxR.keeps_tok _ _⟩
  rw [isK_k, (rel.val k).isSome_eq]
theorem tup_test {P dd : Addr} {vs xs : List V} {H : Hp} {σ : L2.St} {pins : List (Addr × Obj)} {s1 : Shared} (I : Inv X pins σ H s1) (hd : H dd = some (.tup xs)) (hP : ∃ ps, H P = some (.tbl ps)) (hv : ∀ v ∈ vs, flatV v = true) (hx : xs.all flatV = true) : InTest X P dd (fun v => inV v xs) vs s1 := by
  intro A' E' v u s₂ hm rv kp
  have hdP : dd ≠ P := by
    rintro rfl
    obtain ⟨ps, hP⟩ := hP
    rw [hP] at hd
    cases hd
  obtain ⟨its, r, pl, hz⟩ := I.tuple (SqT.of hd)
  obtain ⟨o, e, hc, n, hdat⟩ := pl
  have pl2 : s₂.heap.IsTuple dd its.toArray := ⟨o, kp _ _ hdP e, hc, n, hdat⟩
  have fx := hv v hm
  refine SeqAt.in_tupleAt (eqU v) pl2 (fun w hw => mem_eqAt rv fx r hx w (by simpa using hw)) ⟨?_, ?_⟩
  · rw [show its.toArray.any (eqU v) = its.any (eqU v) by simp, any_eqU r hx]
    rfl
  · exact ⟨_, _, rfl, fun _ _ e => e⟩
theorem inV_ints (i : Int) (m : List Int) : inV (.int i) (m.map V.int) = decide (i ∈ m) := by
  unfold inV
  rw [List.any_map, Bool.eq_iff_iff]
  simp only [List.any_eq_true, Function.comp_apply, decide_eq_true_eq]
  constructor
  · rintro ⟨a, ha, hb⟩
    have : a = i := by simpa [eqV] using hb
    exact this ▸ ha
  · exact fun h => ⟨i, h, by simp [eqV]⟩
theorem xe_allIn {c P : Addr} {iter : Expr} {x dn : Str} {px gpos p1 p2 p3 p pos : Pos} {scope : Scope} {d : DE} {k iD : Nat}
    (hr : Room k X.A) (hg : Gl X "all") (hm : X.mg "all" = none) (TB : LamX.TabB X.base X.mg c P) (hcode : X.env.code = .ref c) (hmT : (P, X.env.qual ++ "<genexpr>") ∈ tabOf ct) (hu : ∀ p ∈ tabOf ct, p.1 = P → p.2 = X.env.qual ++ "<genexpr>")
    (S : AllSc X.env.scope scope x dn) (hN : X.N[iD]? = some dn) (hi : PEd X ct E iter d) (hs : ∀ v, genFold iter X.env v = pure v)
    (he : starEach [.GeneratorExp (.Compare (.Name x p1) [.In] [.Name dn p2] p3) [⟨.Name x px, iter, [], 0⟩] scope gpos] X.env = (false, eval (.GeneratorExp (.Compare (.Name x p1) [.In] [.Name dn p2] p3) [⟨.Name x px, iter, [], 0⟩] scope gpos) X.env) :: starEach [] X.env := by rfl)
    (hb : bootBuiltins "all" = some (.builtin "all") := by rfl) (hdx : (x == ("__debug__" : Str)) = false := by decide) (hdd : (dn == ("__debug__" : Str)) = false := by decide) (hdc : (dn == ("__classdict__" : Str)) = false := by decide) :
    PEd X ct E (.Call (.Name "all" p) [.GeneratorExp (.Compare (.Name x p1) [.In] [.Name dn p2] p3) [⟨.Name x px, iter, [], 0⟩] scope gpos] [] pos) (dAllIn iD d) := by
  obtain ⟨t, a1, a2⟩ := hi
  refine ⟨_, pe_allIn (T := tabOf ct) hr hg hm hb TB hcode hmT hu S hN a1 hs he hdx hdd hdc, fun ρ σ H es eh Q rel h => ?_⟩
  refine a2.bind rel h fun ρ1 H1 v eh1 y e1 rel1 v1 h1 => ?_
  split at h1
  · rename_i n m hc
    split at h1
    · rename_i ws kvs hw hd
      split at h1
      · rename_i b hb2
        obtain ⟨L, vs, g1, g2, g3⟩ := lst_of rel1.hr hw
        obtain ⟨L', q1, rfl⟩ := vr_ref.mp v1
        rw [g1] at q1
        cases q1
        obtain ⟨dd, u, k1, k2, l, rfl, k4⟩ := dic_of rel1.hr hd
        obtain ⟨w, hw1, hw2⟩ := rel1.1.2 iD _ hc
        obtain ⟨dd', q2, rfl⟩ := vr_ref.mp hw2
        rw [k1] at q2
        cases q2
        obtain ⟨j1, j2⟩ := inAll_of k4 hb2 g3
        refine ⟨rel1.hr.tab, L, dd, vs, isK l, rfl, g2, hw1, fun pins s1 I1 => dk_test I1 k2 ?_ j1, fun H2 eN t1 => ?_⟩
        · obtain ⟨ps, z, _⟩ := rel1.hr.tab _ hmT
          exact ⟨ps, z⟩
        · rw [j2]
          exact h1 ρ1 H2 _ (extN_ext eN) (extN_hr rel1.hr eN t1) (vr_bl.mpr rfl)
      · exact h1.elim
    · exact h1.elim
  · rename_i n ys hc
    split at h1
    · rename_i ws hw
      split at h1
      · rename_i l m hl hm2
        obtain ⟨L, vs, g1, g2, g3⟩ := lst_of rel1.hr hw
        obtain ⟨L', q1, rfl⟩ := vr_ref.mp v1
        rw [g1] at q1
        cases q1
        obtain ⟨w, hw1, hw2⟩ := rel1.1.2 iD _ hc
        obtain ⟨dd, us, rfl, k1, k2⟩ := vr_tup.mp hw2
        rw [intsE_eq hl] at g3
        rw [intsE_eq hm2] at k2
        have ev := VRs.of_ints g3
        have eu := VRs.of_ints k2
        subst ev eu
        refine ⟨rel1.hr.tab, L, dd, l.map V.int, fun v => inV v (m.map V.int), rfl, g2, hw1, fun pins s1 I1 => tup_test I1 k1 ?_ (fun v hv => ?_) (by simp [flatV]), fun H2 eN t1 => ?_⟩
        · obtain ⟨ps, z, _⟩ := rel1.hr.tab _ hmT
          exact ⟨ps, z⟩
        · obtain ⟨i, _, rfl⟩ := List.mem_map.mp hv
          rfl
        · have e : (l.map V.int).all (fun v => inV v (m.map V.int)) = l.all fun i => decide (i ∈ m) := by
            rw [List.all_map]
            congr 1
            funext i
            exact inV_ints i m
          rw [e]
          exact h1 ρ1 H2 _ (extN_ext eN) (extN_hr rel1.hr eN t1) (vr_bl.mpr rfl)
      · exact h1.elim
    · exact h1.elim
  · exact h1.elim
end
end EE
set_option Elab.async false
set_option linter.all false
set_option maxRecDepth 100000
set_option maxHeartbeats 1000000
namespace EE
open PySem PySem.Spec PyProof.Rows L2
def spFrz (sp : Sp) : Sp := fun vs H Q E => sp vs H Q E ∨ ∃ a xs, vs = [.ref a] ∧ H a = some (.lst xs) ∧ ∀ o, sp vs (upd H a (.frz o (.lst xs))) Q E
theorem fn_frz {P : Program} {w : World} {K : Fg} {mg : Str → Option Value} {base : Heap} {k : Nat} {f : Addr} {fd : FuncData} {ps : List Str} {sp : Sp} (F : FnOk P w K mg base CX0 k f fd ps sp) : FnOk P w K mg base CX0 k f fd ps (spFrz sp) := by
  refine ⟨fun vs H Q E h => ?_, fun A outer s H args us vs Q E hr e0 hb rv h => ?_⟩
  · rcases h with h | ⟨a, xs, _, _, h⟩
    · exact F.len vs H Q E h
    · exact F.len vs _ Q E (h { cls := .none, data := .plain })
  · rcases h with h | ⟨a, xs, _, ha, h⟩
    · exact F.run A outer s H args us vs Q E hr e0 hb rv h
    · obtain ⟨hz, its, n, ri, ho⟩ := e0.hok a _ ha
      have at_ : ∀ b, b ≠ a → upd H a (.frz { cls := .type "list", data := .seq its.toArray n } (.lst xs)) b = H b := fun b hb => upd_ne hb
      have nn : ∀ b, H b = none → b ≠ a := fun b hb => by
        rintro rfl
        rw [ha] at hb
        cases hb
      have e1 : Env0 P w K mg base A outer s (upd H a (.frz { cls := .type "list", data := .seq its.toArray n } (.lst xs))) := by
        refine ⟨e0.frames, e0.mod, fun b o e => ?_, e0.bsz, e0.funs, fun b hb => ?_, fun b o e => ?_, e0.bare⟩
        · obtain ⟨h1, h2⟩ := e0.bs b o e
          exact ⟨h1, by rw [at_ b (nn b h2)]; exact h2⟩
        · have h2 := e0.frf b hb
          rw [at_ b (nn b h2)]
          exact h2
        · by_cases hba : b = a
          · subst hba
            rw [upd_same] at e
            cases e
            exact ⟨ho, hz, its, n, ri, ho⟩
          · rw [at_ b hba] at e
            refine (e0.hok b o e).stay (fun _ _ _ q => q) (fun c q => ?_) fun c ys q => ?_
            · rw [at_ c (fun z => by rw [z, ha] at q; cases q)]
              exact q
            · rw [at_ c (fun z => by rw [z, ha] at q; cases q)]
              exact q
      refine codeAny_mono (F.run A outer s _ args us vs Q E hr e1 hb rv (h _)) fun r s' hq => ?_
      cases r with
      | error e => exact hq
      | ok fl =>
        cases fl with
        | ret u =>
          obtain ⟨v, H', g1, g2, g3, g4, g5, g6⟩ := hq
          refine ⟨v, H', g1, g2, ?_, g4, g5, g6⟩
          refine ⟨fun b o q m => g3.keep b o q (by rw [at_ b (nn b m)]; exact m), fun b o q m => g3.slot b o q (by rw [at_ b (nn b m)]; exact m), fun b o q m => g3.free b o q (by rw [at_ b (nn b m)]; exact m), g3.there, fun b ys q => ?_, fun b ob u q => ?_, fun b ys q => ?_⟩
          · exact g3.tups b ys (by rw [at_ b (fun z => by rw [z, ha] at q; cases q)]; exact q)
          · exact g3.frzs b ob u (by rw [at_ b (fun z => by rw [z, ha] at q; cases q)]; exact q)
          · exact g3.tbls b ys (by rw [at_ b (fun z => by rw [z, ha] at q; cases q)]; exact q)
        | next => exact hq
        | brk => exact hq
        | cont => exact hq
theorem fn_dC {P : Program} {w : World} {K : Fg} {mg : Str → Option Value} {base : Heap} {ct : Nat → Addr × List Str} {x qual : Str} {st : Stmt} {f : Addr} {oc : Value} {od an : Option Addr} {osl : Array (Option Value)} {kV doc pm cdv cc : Value} {N ps : List Str} {k : Nat} {d : DS}
    (l : K.lookup f = some ⟨oc, od, .func (PySem.W.fnOf x qual (defArgs st) (defBody st) (defScope st) .none kV doc pm an cdv cc), osl⟩) (c : PySem.W.codeIn K cdv qual = true) (S : FnScope N ps (defScope st))
    (h : ∀ (A : Around) (outer : List Env) (s : Shared) (H : Hp) (E : XK), Room k (A.deeper (envOfC qual (defScope st) s.heap.objs.size f cdv)) → PSsd (cxOf CX0 P w K mg base N qual (defScope st) f cdv A outer s H E).nox ct E0 (defBody st) d) :
    FnOk P w K mg base CX0 (k + 1) f (PySem.W.fnOf x qual (defArgs st) (defBody st) (defScope st) .none kV doc pm an cdv cc) ps (spD0 ⟨K, ct⟩ (dDef ps.length N.length d)) := by
  refine fn_of l c S (fun vs H Q E hs => ?_) fun A outer s H vs Q E hr hs => ?_
  · obtain ⟨ρ, xs, eh, h1, h2, h3⟩ := hs
    rw [← h1.length]
    unfold dDef at h3
    split at h3
    · assumption
    · exact h3.elim
  · obtain ⟨ρ, xs, eh, h1, h2, h3⟩ := hs
    obtain ⟨t, b1, b2⟩ := h A outer s H E hr
    refine ⟨t, b1.nox, b2 ρ (L2.start N vs) H _ eh _ ⟨sr_start N h1, h2⟩ ?_⟩
    unfold dDef at h3
    split at h3
    · cases q : d (xs.map some ++ List.replicate (N.length - xs.length) none) eh with
      | no => rw [q] at h3; exact h3
      | er z h' => rw [q] at h3; exact h3
      | ok fl h' =>
        rw [q] at h3
        intro ρ' H' vf e hr' rf
        cases fl with
        | nx es' =>
          cases vf with
          | nx σ' => exact h3 ρ' H' .non e hr' (vr_non.mpr rfl)
          | _ => exact rf.elim
        | rt v =>
          cases vf with
          | rt u => exact h3 ρ' H' u e hr' rf
          | _ => exact rf.elim
        | bk _ => exact h3.elim
        | ct _ => exact h3.elim
    · exact h3.elim
def codeTab (K : Fg) (cdv : Value) : Option (Addr × Addr) := match cdv with
  | .ref c => match K.lookup c with
    | some ⟨_, _, .fields vs, _⟩ => match (vs[11]? : Option Value) with
      | some (.ref P) => some (c, P)
      | _ => none
    | _ => none
  | _ => none
theorem codeTab_of {K : Fg} {cdv : Value} {c P : Addr} (h : codeTab K cdv = some (c, P)) : cdv = .ref c ∧ ∃ (e : Value) (dd : Option Addr) (vs : Array Value) (sl : Array (Option Value)), K.lookup c = some ⟨e, dd, .fields vs, sl⟩ ∧ vs[11]? = some (.ref P) := by
  unfold codeTab at h
  split at h
  · split at h
    · rename_i e dd vs sl e1
      split at h
      · rename_i Q e2
        cases h
        exact ⟨rfl, e, dd, vs, sl, e1, e2⟩
      · cases h
    · cases h
  · cases h
def OwnTabs (K : Fg) (mg : Str → Option Value) (h : Heap) (xs : List Str) : Prop := ∀ x ∈ xs, ∀ fa : Addr, mg x = some (.ref fa) → LamX.OwnTab K fa h
theorem walk_ofTabs (xs : List Str) {l : PySem.W.OpenLaw} {n k : Nat} {q : Program} {loose : List Str} {XP : (Str → Option Value) → Heap → Prop} {YP : World → Heap → Prop} {d : DefRec} {K : Params → Fg} {x : Str}
    (hn : l.most = some n) (hn2 : n ≤ sizeLine) (hdf : d.params.defaults = []) (hr : Room k callerA) (hrec : (xs.all fun x => (recsOf q).any fun e => e.name == x) = true) (hY : ∀ (w : World) (h : Heap), YP w h → (K w.params).In h)
    (F : ∀ (w : World) (mg : Str → Option Value) (fa : Addr) (h : Heap), YP w h → (K w.params).In h → h.Ns mainGlobals mg → mg d.name = some (.ref fa) → OwnTabs (K w.params) mg h xs → LamX.LawAtS l w (K w.params) CX0 k n x mg fa h) :
    PySem.W.WalkO q loose XP YP l.row.toRowW d [] (fun f vs => PySem.call f vs) := by
  refine Att.attach_callB hn hdf fun w s₀ s₁ mg mb fa o pm cd doc a vs ns G Y ho hd hcd hmg hobj hints hlen hbits hg => ?_
  have KX := hY w _ Y
  have own : OwnTabs (K w.params) mg s₁.heap xs := fun y hy fb hfb c P o1 fd1 e dd vs1 sl k1 k2 k3 k4 k5 => by
    obtain ⟨r, hm, hr2⟩ := List.any_eq_true.mp (List.all_eq_true.mp hrec y hy)
    obtain ⟨a2, o2, fd2, c2, P2, h1, h2, h3, h4, h5, h6⟩ := G.T.tab r hm
    rw [beq_iff_eq.mp hr2, hfb] at h1
    cases h1
    rw [KX _ _ k1] at h2
    cases h2
    rw [k2] at h3
    cases h3
    rw [k3] at h4
    cases h4
    obtain ⟨⟨oc, vc, e1, _, e3, e4⟩, hP⟩ := h6
    rw [KX _ _ k4] at e1
    cases e1
    cases e3
    rw [k5] at e4
    cases e4
    exact hP
  obtain ⟨fd, cs, sp, hT, nT, C, hb, hsp, hF⟩ := F w mg fa _ Y KX G.T.g hmg own
  exact LamX.law_callTs KX G.T.g G.T.b G.T.builtins G.T.nolimit hg hT nT C G.T.bmain hobj hints (Nat.le_trans hlen hn2) hr hF hb (fun H hH hS => hsp H a ns hlen hbits hH hS) fun H e s' z => z
theorem law_spT {K : Fg} {ct : Nat → Addr × List Str} {fn : DL} (hl : LawOk fn) {H : Hp} {a : Addr} {ns : List Int} (hn : ns.length ≤ 63) (hS : SqL K H a (ns.map V.int)) (hT : ∀ p ∈ tabOf ct, H p.1 = some (.tbl #[])) :
    spFrz (spD0 ⟨K, ct⟩ fn) [.ref a] H (fun v _ => v = .bl true) E0 := by
  obtain ⟨h', e⟩ := hl ns hn
  have key : ∀ H : Hp, (∀ p ∈ tabOf ct, H p.1 = some (.tbl #[])) → RoL K H a (ns.map V.int) → spD0 ⟨K, ct⟩ fn [.ref a] H (fun v _ => v = .bl true) E0 := by
    intro H hT hro
    refine ⟨[(false, a)], [.ref 0], [.ro (ns.map EV.int)], VRs.one (vr_ref.mpr ⟨a, rfl, rfl⟩), ⟨fun p hp => LamX.TabS.nil (hT p hp), rfl, fun m n b h1 h2 => ?_, fun n o ho => ?_⟩, ?_⟩
    · cases m with
      | zero => simp at h1
      | succ m => simp at h1
    · cases n with
      | zero =>
        simp only [List.getElem?_cons_zero, Option.some.injEq] at ho
        subst ho
        exact ⟨a, rfl, ns.map V.int, hro, VRs.ints ns⟩
      | succ n => simp at ho
    · rw [e]
      intro ρ' H' u _ _ hv
      exact vr_bl.mp hv
  rcases hS with (h | ⟨o, h⟩) | h
  · refine .inr ⟨a, _, rfl, h, fun o => key _ (fun p hp => ?_) (.inl ⟨o, upd_same⟩)⟩
    have h1 := hT p hp
    rw [upd_ne (fun z => by rw [z, h] at h1; cases h1)]
    exact h1
  · exact .inl (key H hT (.inl ⟨o, h⟩))
  · exact .inl (key H hT (.inr h))
end EE
set_option Elab.async false
set_option linter.all false
set_option maxRecDepth 100000
set_option maxHeartbeats 1000000
namespace EE
open PySem PySem.Spec PyProof.Rows L2
def fRev : EV → EH → Res EV := fun x h => match x with
  | .ref m => match lstAt h m with
    | some xs => .ok (.ref h.length) (h ++ [.lst xs.reverse])
    | none => .no
  | _ => .no
def dRev (a : DE) : DE := fun es h => (a es h).bind fRev
section
variable {X : Cx} {ct : Nat → Addr × List Str} {E : XK}
theorem xe_revL {a : Expr} {k : Nat} {p1 p2 p3 pos : Pos} {da : DE} (ha : PEd X ct E a da) : PEd X ct E (.Subscript a (.Slice none none (some (.UnaryOp .USub (.Constant (.int 1) k p1) p2)) p3) pos) (dRev da) := by
  obtain ⟨t, h1, h2⟩ := ha
  refine ⟨_, pe_revL h1, fun ρ σ H es eh Q rel h => ?_⟩
  refine h2.bind rel h fun ρ1 H1 x eh1 u e1 rel1 v1 h3 => ?_
  unfold fRev at h3
  split at h3
  · rename_i m
    split at h3
    · rename_i xs e4
      obtain ⟨a1, vs, g1, g2, g3⟩ := lst_of rel1.hr e4
      obtain ⟨a', q1, rfl⟩ := vr_ref.mp v1
      rw [g1] at q1; cases q1
      exact ⟨a1, vs, rfl, g2, new_lst rel1.hr g3.rev h3⟩
    · exact h3.elim
  · exact h3.elim
end
def TxC (K : Fg) (mg : Str → Option Value) (x : Str) (st : Stmt) (ps : List Str) (c : Addr) : Prop := ∃ (f : Addr) (oc : Value) (od : Option Addr) (kV doc pm : Value) (an : Option Addr) (cc : Value) (osl : Array (Option Value)),
  K.lookup f = some ⟨oc, od, .func (PySem.W.fnOf x x (defArgs st) (defBody st) (defScope st) .none kV doc pm an (.ref c) cc), osl⟩ ∧ PySem.W.codeIn K (.ref c) x = true ∧ PySem.W.keepIn K (.ref f) = true ∧ mg x = some (.ref f) ∧
  Binds K (PySem.W.fnOf x x (defArgs st) (defBody st) (defScope st) .none kV doc pm an (.ref c) cc) ps []
section
variable {P : Program} {w : World} {K : Fg} {mg : Str → Option Value} {base : Heap} {ct : Nat → Addr × List Str}
theorem fndC_mk {x : Str} {st : Stmt} {N ps : List Str} {k : Nat} {d : DS} {c : Addr} (T : TxC K mg x st ps c) (S : FnScope N ps (defScope st))
    (h : ∀ (f : Addr) (A : Around) (outer : List Env) (s : Shared) (H : Hp) (E : XK), Room k (A.deeper (envOfC x (defScope st) s.heap.objs.size f (.ref c))) → PSsd (cxOf CX0 P w K mg base N x (defScope st) f (.ref c) A outer s H E).nox ct E0 (defBody st) d) :
    FnD P w K mg base ct (k + 1) x (dDef ps.length N.length d) := by
  obtain ⟨f, oc, od, kV, doc, pm, an, cc, osl, l, hc, hk, hm, hb⟩ := T
  exact ⟨f, _, ps, fn_dC l hc S (h f), hm, hk, hb⟩
end
theorem xe_wordT {X : Cx} {ct : Nat → Addr × List Str} {E : XK} {x a e n : Str} {st : Stmt} {c P news : Addr} {k : Nat} {Ng : List Str} {b0 : Stmt} {suite : List Stmt} {p1 p2 p3 p4 p7 p8 : Pos}
    {params : Arguments} {body : Expr} {scope : Scope} {p lpos pos : Pos} {raised : Nat → Prop} {dS : Nat → Addr → Option Addr → DS} {rs : Nat → List EV → EH → Option (EV × EH)} {d : DE}
    (T : Tx X.K X.mg x st [a]) (hst : defBody st = [.Try [.Return (some (.Call (.Name a p1) [] [] p2)) p3] [.ExceptHandler (some (.Name e p4)) (some n) (b0 :: suite) p7] [] [] p8]) (hg : Gl X x)
    (Sg : FnScope Ng [a] (defScope st)) (hNg : Ng[0]? = some a) (hva : Vis (defScope st) a)
    (hge : (defScope st).names.lookup e = some .globalImplicit) (hme : X.mg e = some (.ref news)) (hde : (e == ("__debug__" : Str)) = false) (h0 : ∀ f : Addr, (L2.start Ng [V.ref f])[0]? = some (some (V.ref f))) (hn : Ng[1]? = some n) (hln : (defScope st).names.lookup n = some .local) (h5 : Ng.length = 5)
    (hex : ∀ c, raised c → PySem.W.exmOne X.K (.ref (ct c).1) (.ref news) = some true)
    (hS : ∀ (g : Addr) (cdv : Value) (s : Shared) (H : Hp), SuiteD ((cxOf C8.CX0 X.prog X.w X.K X.mg X.base Ng x (defScope st) g cdv X.A X.stack s H C8.E0).nox) ct raised b0 suite dS)
    (TB : LamX.TabB X.base X.mg c P) (hcode : X.env.code = .ref c) (hmT : (P, X.env.qual ++ "<lambda>") ∈ tabOf ct) (hu : ∀ p ∈ tabOf ct, p.1 = P → p.2 = X.env.qual ++ "<lambda>") (hr : Room (k + 2) X.A) (L : LamX.LamS X.env.scope scope) (hdef : defaultsOf params X.env = ([], []))
    (hbind : ∀ (q : Str) (cl : List (Str × Addr)) (pm cv ctv : Value), bindArgs (PySem.W.kla_fn "<lambda>" q params body scope cl pm cv ctv) ⟨[], []⟩ = pure [])
    (hbody : ∀ (A : Around) (outer : List Env) (s : Shared) (H : Hp) (E : XK) (f c' : Addr), Room k (A.deeper (LamX.lamEnv X scope s.heap.objs.size f c')) → TkE (LamX.lamCx X A outer s H E scope f c') E → PEd (LamX.lamCx X A outer s H E scope f c') ct E body d)
    (hrs : ∀ (c : Nat) (a : Addr) (dd : Option Addr) (fs : List EV) (h1 : EH) (v : EV) (h2 : EH), rs c fs h1 = some (v, h2) → dd.isSome = !fs.isEmpty → raised c ∧ dS c a dd [none, some (.exc a dd (ct c).2 fs), none, none, none] h1 = .ok (.rt v) h2)
    (hdb : (x == ("__debug__" : Str)) = false := by decide) (hd : (a == ("__debug__" : Str)) = false := by decide) (hcd : (a == ("__classdict__" : Str)) = false := by decide) :
    PEd X ct E (.Call (.Name x p) [.Lambda params body scope lpos] [] pos) (dWord rs d) := by
  obtain ⟨f, fd, F, hm, hb⟩ := T
  obtain ⟨oc, od, kV, doc, pm, an, cdv, ctv, osl, rfl, lk, hcg⟩ := F.ex
  rw [hst] at lk hb
  exact xe_word hg hm F.kp lk hcg hb Sg hNg hva hge hme hde h0 hn hln h5 hex (hS f cdv) TB hcode hmT hu hr L hdef hbind hbody hrs hdb hd hcd
end EE
set_option Elab.async false
set_option linter.all false
set_option maxRecDepth 100000
set_option maxHeartbeats 1000000
namespace EE
open PySem PySem.Spec PyProof.Rows L2
structure XwD (K : Fg) (C news : Addr) : Prop where
  xi : XiD K C
  xf : XfC K C
  ex : PySem.W.exmOne K (.ref C) (.ref news) = some true
  ve : PySem.W.kitOne K (.ref C) (.type "ValueError") = some true
theorem xwD_of {K : Fg} {C news : Addr} {cd : ClassData} (cl : PySem.W.clsIn K C = some cd)
    (ga : PySem.W.findIn K (.ref C) "__getattribute__" = some (some (.builtin "BaseException.__getattribute__"))) (gg : PySem.W.findIn K (.ref C) "__getattr__" = some none) (sb : PySem.W.subIn K (.ref C) (.type "BaseException") = some true)
    (cc : PySem.W.findIn K (.ref C) "__class__" = some (some (.builtin "object.__class__"))) (gs : PySem.W.specialIn K (.builtin "object.__class__") "__get__" = some (some (.builtin "getset_descriptor.__get__")))
    (tk : PySem.W.takesIn K (.builtin "object.__class__") = some true) (ob : PySem.W.mroIn K C (.type "object") = some true) (hd : PySem.W.hasDictIn K C = true) (ex : PySem.W.exmOne K (.ref C) (.ref news) = some true) (ve : PySem.W.kitOne K (.ref C) (.type "ValueError") = some true) : XwD K C news :=
  ⟨⟨by rw [cl]; rfl, ga, gg, sb, cc, gs, tk, ob⟩, ⟨ga, gg, sb, hd⟩, ex, ve⟩
def IsKit (K : Fg) (mg : Str → Option Value) (C : Addr) (x : Str) (b : Bool) : Prop := ∃ D : Addr, mg x = some (.ref D) ∧ PySem.W.kitOne K (.ref C) (.ref D) = some b
theorem supD_of {P : Program} {w : World} {K : Fg} {mg : Str → Option Value} {st : Stmt} {C cc cda f : Addr} {a1 a2 fld c1 c2 : Str} {j1 j2 : Nat} {p0 p1 p2 p3 p4 p5 p6 p7 p8 p9 p10 p11 p12 p13 : Pos} {qual file : Str}
    {kV doc pm ct oc ccl cl : Value} {an od cdd cld : Option Addr} {osl ccs csl : Array (Option Value)} {vs : Array Value} {tf : Tok} {cdD : ClassData} {ar : Arg}
    (ei : PySem.W.excInitIn K C [.type "ValueError", .type "Exception", .type "BaseException", .type "object"] "ValueError.__new__" = true) (k : PySem.W.keepIn K (.ref C) = true) (b : PySem.W.subIn K (.ref C) (.type "BaseException") = some true) (t : PySem.W.typeIn K (.ref C) = some (.type "type"))
    (hf1 : PySem.W.findIn K (.ref C) "__init__" = some (some (.ref f))) (hf2 : PySem.W.typeIn K (.ref f) = some (.type "function"))
    (lk : K.lookup f = some ⟨oc, od, .func (PySem.W.ksFn "__init__" qual (defArgs st) (defBody st) (defScope st) .none kV doc pm an (.ref cda) ct cc), osl⟩) (hcd : PySem.W.codeIn K (.ref cda) qual = true)
    (hst : defBody st = supBody a1 a2 fld c1 c2 j1 j2 p0 p1 p2 p3 p4 p5 p6 p7 p8 p9 p10 p11 p12 p13) (hev : SupLine a2 c1 c2 j1 j2 p0 p1 p2 p3 p4 p5 p6 p7 p8)
    (hbind : ∀ (s : Shared) (u v : Value), BindsTo s (PySem.W.ksFn "__init__" qual (defArgs st) (supBody a1 a2 fld c1 c2 j1 j2 p0 p1 p2 p3 p4 p5 p6 p7 p8 p9 p10 p11 p12 p13) (defScope st) .none kV doc pm an (.ref cda) ct cc) ⟨[u, v], []⟩ [(a1, u), (a2, v)])
    (hcode : K.lookup cda = some ⟨ccl, cdd, .fields vs, ccs⟩) (hvs : vs[2]? = some (.str file tf)) (hfile : ((P.main.file : Str) == file) = true) (htop : (P.main.scope.names.lookup ("super" : Str)).isSome = false)
    (hcell : K.lookup cc = some ⟨cl, cld, .cell (some (.ref C)), csl⟩) (hD : PySem.W.clsIn K C = some cdD) (hsub : PySem.W.mroIn K C (.ref C) = some true)
    (hpar : ((defArgs st).posonlyargs ++ (defArgs st).args).head? = some ar) (har : ar.arg = a1) (hne : (a1 == a2) = false)
    (hks : (defScope st).names.lookup ("super" : Str) = some .globalImplicit) (hkc : (defScope st).names.lookup ("__class__" : Str) = some .free) (h1 : (defScope st).names.lookup a1 = some .local) (h2 : (defScope st).names.lookup a2 = some .local) (hcells : ∀ y ∈ (defScope st).names, y.2 ≠ .cell) (hco : (defScope st).isCoroutine = false) (hgen : (defScope st).isGenerator = false) (hk : (defScope st).kind = .function)
    (hd1 : (a1 == ("__debug__" : Str)) = false) (hd2 : (a2 == ("__debug__" : Str)) = false)
    (htp : PySem.W.nsIn K cStatics "thirdparty.any" = some none) (hmi : PySem.W.ks_superIn K C C "__init__" = some (some (.builtin "ValueError.__init__"))) (hB : PySem.W.subIn K (.ref C) (.type "ValueError") = some true)
    (hsa : PySem.W.findIn K (.ref C) "__setattr__" = some (some (.builtin "object.__setattr__"))) (hmr : PySem.HandSPX.refsVE cdD.mro = true) (hdi : cdD.hasDict = true) (hno : PySem.W.findIn K (.ref C) fld = some none) (hms : mg "super" = none) : SupD P w K mg C fld c1 c2 := by
  refine ⟨ei, k, b, t, f, hf1, hf2, fun A hp g dr tk os R x t0 i ti mb KX hnl hgl hbl hmb hroom hx hxK hi hl hR => ?_⟩
  rw [hst] at lk
  exact sup_init hev KX hnl hgl hms hbl hmb hroom lk hcd hbind hcode hvs hfile htop hcell hD hsub hpar har hne hks hkc h1 h2 hcells hco hgen hk hd1 hd2 htp hmi hB ei hsa hmr hdi hno hx hxK hi hl hR
end EE
set_option Elab.async false
set_option linter.all false
set_option maxRecDepth 100000
set_option maxHeartbeats 1000000
namespace EE
open PySem L2
def Tri {α : Type} (r : Res α) (Q : α → EH → Prop) : Prop := match r with
  | .ok v h => Q v h
  | .er _ _ => False
  | .no => False
@[simp] theorem tri_ok {α : Type} (v : α) (h : EH) (Q : α → EH → Prop) : Tri (.ok v h) Q ↔ Q v h := Iff.rfl
@[simp] theorem tri_no {α : Type} (Q : α → EH → Prop) : Tri (.no) Q ↔ False := Iff.rfl
@[simp] theorem tri_er {α : Type} (x : Exn) (h : EH) (Q : α → EH → Prop) : Tri (.er x h) Q ↔ False := Iff.rfl
@[simp] theorem tri_noer {α : Type} (r : Res α) (Q : α → EH → Prop) : Tri r.noer Q ↔ Tri r Q := by cases r <;> rfl
theorem tri_bind {α β : Type} (r : Res α) (k : α → EH → Res β) (Q : β → EH → Prop) : Tri (r.bind k) Q ↔ Tri r (fun v h => Tri (k v h) Q) := by cases r <;> rfl
theorem Tri.mono {α : Type} {r : Res α} {Q Q' : α → EH → Prop} (h : Tri r Q) (hq : ∀ v h, Q v h → Q' v h) : Tri r Q' := by
  cases r with
  | ok v h' => exact hq v h' h
  | er _ _ => exact h
  | no => exact h
theorem Tri.bind {α β : Type} {r : Res α} {k : α → EH → Res β} {Q : β → EH → Prop} {P : α → EH → Prop} (h : Tri r P) (hq : ∀ v h, P v h → Tri (k v h) Q) : Tri (r.bind k) Q := by
  rw [tri_bind]
  exact h.mono hq
theorem Tri.ex {α : Type} {r : Res α} {Q : α → EH → Prop} (h : Tri r Q) : ∃ v h', r = .ok v h' ∧ Q v h' := by
  cases r with
  | ok v h' => exact ⟨v, h', rfl, h⟩
  | er _ _ => exact h.elim
  | no => exact h.elim
section
variable (es : ES) (h : EH)
def gV (o : Option (Option EV)) (h : EH) : Res EV := match o with
  | some (some v) => .ok v h
  | _ => .no
@[simp] theorem gV_some (v : EV) : gV (some (some v)) h = .ok v h := rfl
@[simp] theorem ap_var (i : Nat) : dVar i es h = gV es[i]? h := rfl
@[simp] theorem ap_c (v : EV) : dC v es h = .ok v h := rfl
def kOp2 (f : D2) (x : EV) : EV → EH → Res EV := fun y h => f x y h
def kOp (f : D2) (b : DE) (es : ES) : EV → EH → Res EV := fun x h => (b es h).bind (kOp2 f x)
@[simp] theorem ap_op (f : D2) (a b : DE) : dOp f a b es h = (a es h).bind (kOp f b es) := rfl
@[simp] theorem ap_kOp (f : D2) (b : DE) (x : EV) : kOp f b es x h = (b es h).bind (kOp2 f x) := rfl
@[simp] theorem ap_kOp2 (f : D2) (x y : EV) : kOp2 f x y h = f x y h := rfl
@[simp] theorem ap_un (f : D1) (a : DE) : dUn f a es h = (a es h).bind f := rfl
@[simp] theorem ap_nil : dNil es h = .ok [] h := rfl
def kCons2 (x : EV) : List EV → EH → Res (List EV) := fun xs h => .ok (x :: xs) h
def kCons (r : DA) (es : ES) : EV → EH → Res (List EV) := fun x h => (r es h).bind (kCons2 x)
@[simp] theorem ap_cons (a : DE) (r : DA) : dCons a r es h = (a es h).bind (kCons r es) := rfl
@[simp] theorem ap_kCons (r : DA) (x : EV) : kCons r es x h = (r es h).bind (kCons2 x) := rfl
@[simp] theorem ap_kCons2 (x : EV) (xs : List EV) : kCons2 x xs h = .ok (x :: xs) h := rfl
@[simp] theorem ap_cb (f : DL) (a : DA) : dCB f a es h = (a es h).bind f := rfl
def kCall (f : DL) : List EV → EH → Res EV := fun xs h => (f xs h).noer
@[simp] theorem ap_call (f : DL) (a : DA) : dCall f a es h = (a es h).bind (kCall f) := rfl
@[simp] theorem ap_kCall (f : DL) (xs : List EV) : kCall f xs h = (f xs h).noer := rfl
def kTup : List EV → EH → Res EV := fun xs h => if xs.length ≤ 100000 then .ok (.tup xs) h else .no
@[simp] theorem ap_tup (a : DA) : dTup a es h = (a es h).bind kTup := rfl
@[simp] theorem ap_kTup (xs : List EV) : kTup xs h = if xs.length ≤ 100000 then .ok (.tup xs) h else .no := rfl
def kLst : List EV → EH → Res EV := fun xs h => if xs.length ≤ 100000 then .ok (.ref h.length) (h ++ [.lst xs]) else .no
@[simp] theorem ap_lst (a : DA) : dLst a es h = (a es h).bind kLst := rfl
@[simp] theorem ap_kLst (xs : List EV) : kLst xs h = if xs.length ≤ 100000 then .ok (.ref h.length) (h ++ [.lst xs]) else .no := rfl
def kB : EV → EH → Res Bool := fun x h => match x with
  | .bl b => .ok b h
  | _ => .no
@[simp] theorem ap_B (a : DE) : dB a es h = (a es h).bind kB := rfl
@[simp] theorem ap_kB (b : Bool) : kB (.bl b) h = .ok b h := rfl
def kAnd (b : DT) (es : ES) : Bool → EH → Res Bool := fun c h => if c = true then b es h else .ok false h
@[simp] theorem ap_and (a b : DT) : dAnd a b es h = (a es h).bind (kAnd b es) := rfl
@[simp] theorem ap_kAnd (b : DT) (c : Bool) : kAnd b es c h = if c = true then b es h else .ok false h := rfl
def kOr (b : DT) (es : ES) : Bool → EH → Res Bool := fun c h => if c = true then .ok true h else b es h
@[simp] theorem ap_or (a b : DT) : dOr a b es h = (a es h).bind (kOr b es) := rfl
@[simp] theorem ap_kOr (b : DT) (c : Bool) : kOr b es c h = if c = true then .ok true h else b es h := rfl
def kNot : Bool → EH → Res Bool := fun c h => .ok (!c) h
@[simp] theorem ap_not (a : DT) : dNot a es h = (a es h).bind kNot := rfl
@[simp] theorem ap_kNot (c : Bool) : kNot c h = .ok (!c) h := rfl
def kAndV (b : DE) (es : ES) : EV → EH → Res EV := fun x h => match x with
  | .bl c => if c = true then b es h else .ok (.bl false) h
  | _ => .no
@[simp] theorem ap_andV (a b : DE) : dAndV a b es h = (a es h).bind (kAndV b es) := rfl
@[simp] theorem ap_kAndV (b : DE) (c : Bool) : kAndV b es (.bl c) h = if c = true then b es h else .ok (.bl false) h := rfl
def kOrV (b : DE) (es : ES) : EV → EH → Res EV := fun x h => match x with
  | .bl c => if c = true then .ok (.bl true) h else b es h
  | _ => .no
@[simp] theorem ap_orV (a b : DE) : dOrV a b es h = (a es h).bind (kOrV b es) := rfl
@[simp] theorem ap_kOrV (b : DE) (c : Bool) : kOrV b es (.bl c) h = if c = true then .ok (.bl true) h else b es h := rfl
def kNotV : EV → EH → Res EV := fun x h => match x with
  | .bl c => .ok (.bl (!c)) h
  | _ => .no
@[simp] theorem ap_notV (a : DE) : dNotV a es h = (a es h).bind kNotV := rfl
@[simp] theorem ap_kNotV (c : Bool) : kNotV (.bl c) h = .ok (.bl (!c)) h := rfl
def kIf (a b : DE) (es : ES) : Bool → EH → Res EV := fun c h => if c = true then a es h else b es h
@[simp] theorem ap_if (t : DT) (a b : DE) : dIf t a b es h = (t es h).bind (kIf a b es) := rfl
@[simp] theorem ap_kIf (a b : DE) (c : Bool) : kIf a b es c h = if c = true then a es h else b es h := rfl
def kCh3 (g : D2) (y : EV) : EV → EH → Res EV := fun w h => g y w h
def kCh2 (g : D2) (c : DE) (es : ES) (y : EV) : EV → EH → Res EV := fun z h => match z with
  | .bl k => if k = true then (c es h).bind (kCh3 g y) else .ok (.bl false) h
  | _ => .no
def kCh1 (f g : D2) (c : DE) (es : ES) (x : EV) : EV → EH → Res EV := fun y h => (f x y h).bind (kCh2 g c es y)
def kCh (f g : D2) (b c : DE) (es : ES) : EV → EH → Res EV := fun x h => (b es h).bind (kCh1 f g c es x)
@[simp] theorem ap_chain (f g : D2) (a b c : DE) : dChain f g a b c es h = (a es h).bind (kCh f g b c es) := rfl
@[simp] theorem ap_kCh (f g : D2) (b c : DE) (x : EV) : kCh f g b c es x h = (b es h).bind (kCh1 f g c es x) := rfl
@[simp] theorem ap_kCh1 (f g : D2) (c : DE) (x y : EV) : kCh1 f g c es x y h = (f x y h).bind (kCh2 g c es y) := rfl
@[simp] theorem ap_kCh2 (g : D2) (c : DE) (y : EV) (k : Bool) : kCh2 g c es y (.bl k) h = if k = true then (c es h).bind (kCh3 g y) else .ok (.bl false) h := rfl
@[simp] theorem ap_kCh3 (g : D2) (y w : EV) : kCh3 g y w h = g y w h := rfl
def kIsi (c : Ty) : EV → EH → Res EV := fun x h => match tyOf h x with
  | some t => .ok (.bl (t.isa c)) h
  | none => .no
@[simp] theorem ap_isi (c : Ty) (a : DE) : fIsi c a es h = (a es h).bind (kIsi c) := rfl
def kIsi2 (c c' : Ty) : EV → EH → Res EV := fun x h => match tyOf h x with
  | some t => .ok (.bl (t.isa c || t.isa c')) h
  | none => .no
@[simp] theorem ap_isi2 (c c' : Ty) (a : DE) : fIsi2 c c' a es h = (a es h).bind (kIsi2 c c') := rfl
@[simp] theorem kIsi_int (c : Ty) (i : Int) : kIsi c (.int i) h = .ok (.bl (Ty.isa .int_ c)) h := rfl
@[simp] theorem kIsi_bl (c : Ty) (i : Bool) : kIsi c (.bl i) h = .ok (.bl (Ty.isa .bool_ c)) h := rfl
@[simp] theorem kIsi_str (c : Ty) (i : Str) : kIsi c (.str i) h = .ok (.bl (Ty.isa .str_ c)) h := rfl
@[simp] theorem kIsi_non (c : Ty) : kIsi c .non h = .ok (.bl (Ty.isa .none_ c)) h := rfl
@[simp] theorem kIsi_tup (c : Ty) (xs : List EV) : kIsi c (.tup xs) h = .ok (.bl (Ty.isa .tuple_ c)) h := rfl
@[simp] theorem kIsi2_int (c c' : Ty) (i : Int) : kIsi2 c c' (.int i) h = .ok (.bl (Ty.isa .int_ c || Ty.isa .int_ c')) h := rfl
@[simp] theorem kIsi2_bl (c c' : Ty) (i : Bool) : kIsi2 c c' (.bl i) h = .ok (.bl (Ty.isa .bool_ c || Ty.isa .bool_ c')) h := rfl
@[simp] theorem kIsi2_str (c c' : Ty) (i : Str) : kIsi2 c c' (.str i) h = .ok (.bl (Ty.isa .str_ c || Ty.isa .str_ c')) h := rfl
@[simp] theorem kIsi2_non (c c' : Ty) : kIsi2 c c' .non h = .ok (.bl (Ty.isa .none_ c || Ty.isa .none_ c')) h := rfl
@[simp] theorem kIsi2_tup (c c' : Ty) (xs : List EV) : kIsi2 c c' (.tup xs) h = .ok (.bl (Ty.isa .tuple_ c || Ty.isa .tuple_ c')) h := rfl
theorem kIsi_lst {h : EH} (c : Ty) {n : Nat} {xs : List EV} (e : lstAt h n = some xs) : kIsi c (.ref n) h = .ok (.bl (Ty.isa .list_ c)) h := by
  unfold lstAt at e
  unfold kIsi
  simp only [tyOf]
  split at e <;> simp_all
theorem kIsi2_lst {h : EH} (c c' : Ty) {n : Nat} {xs : List EV} (e : lstAt h n = some xs) : kIsi2 c c' (.ref n) h = .ok (.bl (Ty.isa .list_ c || Ty.isa .list_ c')) h := by
  unfold lstAt at e
  unfold kIsi2
  simp only [tyOf]
  split at e <;> simp_all
@[simp] theorem ap_next : dNext es h = .ok (.nx es) h := rfl
def kSeq (b : DS) : Flw → EH → Res Flw := fun f h1 => match f with
  | .nx es1 => b es1 h1
  | .rt v => .ok (.rt v) h1
  | .bk e => .ok (.bk e) h1
  | .ct e => .ok (.ct e) h1
@[simp] theorem ap_seq (a b : DS) : dSeq a b es h = (a es h).bind (kSeq b) := rfl
@[simp] theorem kSeq_nx (b : DS) : kSeq b (.nx es) h = b es h := rfl
@[simp] theorem kSeq_rt (b : DS) (v : EV) : kSeq b (.rt v) h = .ok (.rt v) h := rfl
@[simp] theorem kSeq_bk (b : DS) : kSeq b (.bk es) h = .ok (.bk es) h := rfl
@[simp] theorem kSeq_ct (b : DS) : kSeq b (.ct es) h = .ok (.ct es) h := rfl
def kIfS (a b : DS) (es : ES) : Bool → EH → Res Flw := fun c h => if c = true then a es h else b es h
@[simp] theorem ap_ifS (t : DT) (a b : DS) : dIfS t a b es h = (t es h).bind (kIfS a b es) := rfl
@[simp] theorem ap_kIfS (a b : DS) (c : Bool) : kIfS a b es c h = if c = true then a es h else b es h := rfl
def kRet : EV → EH → Res Flw := fun x h => .ok (.rt x) h
@[simp] theorem ap_ret (a : DE) : dRet a es h = (a es h).bind kRet := rfl
@[simp] theorem ap_kRet (x : EV) : kRet x h = .ok (.rt x) h := rfl
@[simp] theorem ap_retN : dRetN es h = .ok (.rt .non) h := rfl
def kDrop (es : ES) : EV → EH → Res Flw := fun _ h => .ok (.nx es) h
@[simp] theorem ap_drop (a : DE) : dDrop a es h = (a es h).bind (kDrop es) := rfl
@[simp] theorem ap_kDrop (x : EV) : kDrop es x h = .ok (.nx es) h := rfl
@[simp] theorem ap_break : dBreak es h = .ok (.bk es) h := rfl
@[simp] theorem ap_cont : dCont es h = .ok (.ct es) h := rfl
@[simp] theorem ap_name (i : Nat) (x : EV) : dName i x es h = .ok (es.set i (some x)) h := rfl
@[simp] theorem ap_gnil : dGNil [] es h = .ok es h := rfl
def kG (r : DGs) (xs : List EV) : ES → EH → Res ES := fun es h => r xs es h
@[simp] theorem ap_gcons (g : DG) (r : DGs) (x : EV) (xs : List EV) : dGCons g r (x :: xs) es h = (g x es h).bind (kG r xs) := rfl
@[simp] theorem ap_kG (r : DGs) (xs : List EV) : kG r xs es h = r xs es h := rfl
@[simp] theorem ap_gtup (n : Nat) (r : DGs) (xs : List EV) : dGTup n r (.tup xs) es h = if xs.length = n then r xs es h else .no := rfl
def kGS3 (es : ES) : Unit → EH → Res ES := fun _ h => .ok es h
def kGS2 (f : DSet) (x o : EV) (es : ES) : EV → EH → Res ES := fun i h => (f o i x h).bind (kGS3 es)
def kGS (b : DE) (f : DSet) (x : EV) (es : ES) : EV → EH → Res ES := fun o h => (b es h).bind (kGS2 f x o es)
@[simp] theorem ap_gsub (a b : DE) (f : DSet) (x : EV) : dGSub a b f x es h = (a es h).bind (kGS b f x es) := rfl
@[simp] theorem ap_kGS (b : DE) (f : DSet) (x o : EV) : kGS b f x es o h = (b es h).bind (kGS2 f x o es) := rfl
@[simp] theorem ap_kGS2 (f : DSet) (x o i : EV) : kGS2 f x o es i h = (f o i x h).bind (kGS3 es) := rfl
@[simp] theorem ap_kGS3 : kGS3 es () h = .ok es h := rfl
def kAsg2 : ES → EH → Res Flw := fun es h => .ok (.nx es) h
def kAsg (g : DG) (es : ES) : EV → EH → Res Flw := fun x h => (g x es h).bind kAsg2
@[simp] theorem ap_asg (a : DE) (g : DG) : dAsg a g es h = (a es h).bind (kAsg g es) := rfl
@[simp] theorem ap_kAsg (g : DG) (x : EV) : kAsg g es x h = (g x es h).bind kAsg2 := rfl
@[simp] theorem ap_kAsg2 : kAsg2 es h = .ok (.nx es) h := rfl
def kPar (i j : Nat) (es : ES) : List EV → EH → Res Flw := fun xs h => match xs with
  | [x, y] => .ok (.nx ((es.set i (some x)).set j (some y))) h
  | _ => .no
@[simp] theorem ap_par (i j : Nat) (a : DA) : dPar i j a es h = (a es h).bind (kPar i j es) := rfl
@[simp] theorem ap_kPar (i j : Nat) (x y : EV) : kPar i j es [x, y] h = .ok (.nx ((es.set i (some x)).set j (some y))) h := rfl
def kBM2 (f : EV → DL) (x : EV) : List EV → EH → Res EV := fun xs h => f x xs h
def kBM (f : EV → DL) (a : DA) (es : ES) : EV → EH → Res EV := fun x h => match x with
  | .ref n => match lstAt h n with
    | some _ => (a es h).bind (kBM2 f x)
    | none => .no
  | _ => .no
@[simp] theorem ap_bm (f : EV → DL) (o : DE) (a : DA) : dBM f o a es h = (o es h).bind (kBM f a es) := rfl
theorem kBM_ref {h : EH} (f : EV → DL) (a : DA) {n : Nat} {xs : List EV} (e : lstAt h n = some xs) : kBM f a es (.ref n) h = (a es h).bind (kBM2 f (.ref n)) := by
  simp [kBM, e]
@[simp] theorem ap_kBM2 (f : EV → DL) (x : EV) (xs : List EV) : kBM2 f x xs h = f x xs h := rfl
def kItL : EV → EH → Res Wlk := fun x h => match x with
  | .ref n => match lstAt h n with
    | some _ => .ok ⟨some n, [], fun _ x => x⟩ h
    | none => .no
  | _ => .no
@[simp] theorem ap_itL (a : DE) : dItL a es h = (a es h).bind kItL := by
  rfl
theorem kItL_ref {h : EH} {n : Nat} {xs : List EV} (e : lstAt h n = some xs) : kItL (.ref n) h = .ok ⟨some n, [], fun _ x => x⟩ h := by
  simp [kItL, e]
def kItT : EV → EH → Res Wlk := fun x h => match x with
  | .tup xs => .ok ⟨none, xs, fun _ x => x⟩ h
  | _ => .no
@[simp] theorem ap_itT (a : DE) : dItT a es h = (a es h).bind kItT := rfl
@[simp] theorem ap_kItT (xs : List EV) : kItT (.tup xs) h = .ok ⟨none, xs, fun _ x => x⟩ h := rfl
def kItR1 : List EV → EH → Res Wlk := fun xs h => match xs with
  | [.int n] => if decide (-100000 ≤ n) && decide (n ≤ 100000) = true then .ok ⟨none, rng 0 n.toNat, fun _ x => x⟩ h else .no
  | _ => .no
@[simp] theorem ap_itR1 (a : DA) : dItR1 a es h = (a es h).bind kItR1 := rfl
theorem ap_kItR1 (n : Int) (h1 : -100000 ≤ n) (h2 : n ≤ 100000) : kItR1 [.int n] h = .ok ⟨none, rng 0 n.toNat, fun _ x => x⟩ h := by
  simp [kItR1, h1, h2]
def kItR2 : List EV → EH → Res Wlk := fun xs h => match xs with
  | [.int lo, .int n] => if decide (-100000 ≤ n) && decide (n ≤ 100000) && decide (-100000 ≤ lo) && decide (lo ≤ 100000) = true then .ok ⟨none, rng lo (n - lo).toNat, fun _ x => x⟩ h else .no
  | _ => .no
@[simp] theorem ap_itR2 (a : DA) : dItR2 a es h = (a es h).bind kItR2 := rfl
theorem ap_kItR2 (lo n : Int) (h1 : -100000 ≤ n) (h2 : n ≤ 100000) (h3 : -100000 ≤ lo) (h4 : lo ≤ 100000) : kItR2 [.int lo, .int n] h = .ok ⟨none, rng lo (n - lo).toNat, fun _ x => x⟩ h := by
  simp [kItR2, h1, h2, h3, h4]
def kFor (g : DG) (b : DS) (es : ES) : Wlk → EH → Res Flw := fun it h1 => match it.cur h1 with
  | none => .no
  | some xs => forGo it g b (xs.length + 1) 0 es h1
@[simp] theorem ap_for (di : DI) (g : DG) (b : DS) : dFor di g b es h = (di es h).bind (kFor g b es) := rfl
def kLc2 : List EV → EH → Res EV := fun ys h2 => .ok (.ref h2.length) (h2 ++ [.lst ys])
@[simp] theorem ap_kLc2 (ys : List EV) : kLc2 ys h = .ok (.ref h.length) (h ++ [.lst ys]) := rfl
def kLc (g : DG) (t : DT) (e : DE) (vs : List Nat) (es : ES) : Wlk → EH → Res EV := fun it h1 => match it.cur h1 with
  | none => .no
  | some xs => (lcGo it g t e vs (xs.length + 1) 0 [] es h1).bind kLc2
@[simp] theorem ap_lc (di : DI) (g : DG) (t : DT) (e : DE) (vs : List Nat) : dLc di g t e vs es h = (di es h).bind (kLc g t e vs es) := rfl
@[simp] theorem ap_yes : dYes es h = .ok true h := rfl
def kPart : EV → EH → Res (Option Int) := fun x h1 => match x with
    | .int i => .ok (some i) h1
    | _ => .no
@[simp] theorem ap_part0 : dPart none es h = .ok none h := rfl
@[simp] theorem ap_part (d : DE) : dPart (some d) es h = (d es h).bind kPart := rfl
@[simp] theorem ap_kPart (i : Int) : kPart (.int i) h = .ok (some i) h := rfl
def kSl3 (f : EV → Option Int → Option Int → EH → Res EV) (x : EV) (l : Option Int) : Option Int → EH → Res EV := fun u h => f x l u h
def kSl2 (f : EV → Option Int → Option Int → EH → Res EV) (hi : ES → EH → Res (Option Int)) (es : ES) (x : EV) : Option Int → EH → Res EV := fun l h => (hi es h).bind (kSl3 f x l)
def kSl (f : EV → Option Int → Option Int → EH → Res EV) (lo hi : ES → EH → Res (Option Int)) (es : ES) : EV → EH → Res EV := fun x h => (lo es h).bind (kSl2 f hi es x)
@[simp] theorem ap_sl (f : EV → Option Int → Option Int → EH → Res EV) (a : DE) (lo hi : ES → EH → Res (Option Int)) : dSl f a lo hi es h = (a es h).bind (kSl f lo hi es) := rfl
@[simp] theorem ap_kSl (f : EV → Option Int → Option Int → EH → Res EV) (lo hi : ES → EH → Res (Option Int)) (x : EV) : kSl f lo hi es x h = (lo es h).bind (kSl2 f hi es x) := rfl
@[simp] theorem ap_kSl2 (f : EV → Option Int → Option Int → EH → Res EV) (hi : ES → EH → Res (Option Int)) (x : EV) (l : Option Int) : kSl2 f hi es x l h = (hi es h).bind (kSl3 f x l) := rfl
@[simp] theorem ap_kSl3 (f : EV → Option Int → Option Int → EH → Res EV) (x : EV) (l u : Option Int) : kSl3 f x l u h = f x l u h := rfl
def kDef : Flw → EH → Res EV := fun f h1 => match f with
  | .nx _ => .ok .non h1
  | .rt v => .ok v h1
  | .bk _ => .no
  | .ct _ => .no
theorem ap_def (np N : Nat) (b : DS) (args : List EV) (hl : args.length = np) : dDef np N b args h = (b (args.map some ++ List.replicate (N - args.length) none) h).bind kDef := by
  unfold dDef
  rw [if_pos hl]
  rfl
@[simp] theorem kDef_nx : kDef (.nx es) h = .ok .non h := rfl
@[simp] theorem kDef_rt (v : EV) : kDef (.rt v) h = .ok v h := rfl
end
section
variable (h : EH) (i j : Int)
@[simp] theorem orE_no {α : Type} (k : Unit → Res α) : (Res.no).orElse k = k () := rfl
@[simp] theorem orE_ok {α : Type} (v : α) (h : EH) (k : Unit → Res α) : (Res.ok v h).orElse k = .ok v h := rfl
@[simp] theorem f_add : fAdd (.int i) (.int j) h = .ok (.int (i + j)) h := rfl
@[simp] theorem f_sub : fSub (.int i) (.int j) h = .ok (.int (i - j)) h := rfl
theorem f_mul (hj : -18446744073709551616 < j) (hj2 : j < 18446744073709551616) : fMul (.int i) (.int j) h = .ok (.int (i * j)) h := by
  show (fInt _ _ _ _ _).orElse _ = _
  simp only [fInt]
  rw [if_pos (by simp [hj, hj2])]
  rfl
theorem f_mulL (hj : -18446744073709551616 < i) (hj2 : i < 18446744073709551616) : fMul (.int i) (.int j) h = .ok (.int (i * j)) h := by
  show (fInt _ _ _ _ _).orElse _ = _
  simp only [fInt]
  rw [if_pos (by simp [hj, hj2])]
  rfl
theorem f_mod (hj : 0 < j) : fMod (.int i) (.int j) h = .ok (.int (i % j)) h := by
  simp [fMod, fInt, hj]
theorem f_div (hj : 0 < j) (hj2 : j < 18446744073709551616) : fDiv (.int i) (.int j) h = .ok (.int (i / j)) h := by
  simp only [fDiv, fInt]
  rw [if_pos (by simp [hj, hj2])]
@[simp] theorem f_pow10 : fPow (.int 10) (.int 18) h = .ok (.int 1000000000000000000) h := by
  simp only [fPow, fInt]
  rw [if_pos (by decide)]
  rfl
@[simp] theorem f_lt : fLt (.int i) (.int j) h = .ok (.bl (decide (i < j))) h := rfl
@[simp] theorem f_le : fLe (.int i) (.int j) h = .ok (.bl (decide (i ≤ j))) h := rfl
@[simp] theorem f_gt : fGt (.int i) (.int j) h = .ok (.bl (decide (j < i))) h := rfl
@[simp] theorem f_ge : fGe (.int i) (.int j) h = .ok (.bl (decide (j ≤ i))) h := rfl
@[simp] theorem f_eqI : fEq (.int i) (.int j) h = .ok (.bl (decide (i = j))) h := by
  show (Res.ok _ _).orElse _ = _
  simp
@[simp] theorem f_neI : fNe (.int i) (.int j) h = .ok (.bl (!decide (i = j))) h := by
  show (Res.ok _ _).orElse _ = _
  simp
@[simp] theorem f_eqB (a b : Bool) : fEq (.bl a) (.bl b) h = .ok (.bl (decide (a = b))) h := by
  show (Res.ok _ _).orElse _ = _
  simp
@[simp] theorem f_eqStr (a b : Str) : fEq (.str a) (.str b) h = .ok (.bl (decide (a = b))) h := by
  show (Res.ok _ _).orElse _ = _
  simp
@[simp] theorem f_neStr (a b : Str) : fNe (.str a) (.str b) h = .ok (.bl (!decide (a = b))) h := by
  show (Res.ok _ _).orElse _ = _
  simp
@[simp] theorem f_neB (a b : Bool) : fNe (.bl a) (.bl b) h = .ok (.bl (!decide (a = b))) h := by
  show (Res.ok _ _).orElse _ = _
  simp
@[simp] theorem f_isN_non : fIsN false .non .non h = .ok (.bl true) h := rfl
@[simp] theorem f_isN_int : fIsN false (.int i) .non h = .ok (.bl false) h := rfl
@[simp] theorem f_isN_bl (b : Bool) : fIsN false (.bl b) .non h = .ok (.bl false) h := rfl
@[simp] theorem f_isN_str (b : Str) : fIsN false (.str b) .non h = .ok (.bl false) h := rfl
@[simp] theorem f_isN_ref (b : Nat) : fIsN false (.ref b) .non h = .ok (.bl false) h := rfl
@[simp] theorem f_isN_tup (b : List EV) : fIsN false (.tup b) .non h = .ok (.bl false) h := rfl
variable {h}
theorem f_ixL {m : Nat} {xs : List EV} {v : EV} (e : lstAt h m = some xs) (k : Nat) (ek : i = (k : Int)) (ev : xs[k]? = some v) : fIx (.ref m) (.int i) h = .ok v h := by
  subst ek
  show (fIxL _ _ _).orElse _ = _
  simp only [fIxL, e, atI_nat ev]
  rfl
theorem f_ixT {xs : List EV} {v : EV} (k : Nat) (ek : i = (k : Int)) (ev : xs[k]? = some v) : fIx (.tup xs) (.int i) h = .ok v h := by
  subst ek
  show (Res.no).orElse _ = _
  simp only [orE_no, fIxT, atI_nat ev]
theorem ixN_of {n k : Nat} (hk : k < n) : ixN n (k : Int) = some k := by
  unfold ixN
  rw [if_pos (by omega), if_pos (by omega)]
  simp
theorem s_lst {m : Nat} {xs : List EV} {x : EV} (e : mutAt h m = some xs) (k : Nat) (ek : i = (k : Int)) (hk : k < xs.length) : sLst (.ref m) (.int i) x h = .ok () (h.set m (.lst (xs.set k x))) := by
  subst ek
  simp only [sLst, e, ixN_of hk]
theorem m_append {m : Nat} {xs : List EV} {x : EV} (e : mutAt h m = some xs) (hl : xs.length < 100000) : mApp (.ref m) [x] h = .ok .non (h.set m (.lst (xs ++ [x]))) := by
  simp only [mApp, e, if_pos hl]
theorem f_len {m : Nat} {xs : List EV} (e : lstAt h m = some xs) : fLen [.ref m] h = .ok (.int xs.length) h := by
  simp only [fLen, e]
@[simp] theorem f_lenT (xs : List EV) : fLen [.tup xs] h = .ok (.int xs.length) h := rfl
theorem f_list {m : Nat} {xs : List EV} (e : lstAt h m = some xs) : fListOf [.ref m] h = .ok (.ref h.length) (h ++ [.lst xs]) := by
  simp only [fListOf, e]
theorem f_cat {m n : Nat} {xs ys : List EV} (e : mutAt h m = some xs) (e2 : mutAt h n = some ys) (hl : xs.length + ys.length ≤ 100000) : fAdd (.ref m) (.ref n) h = .ok (.ref h.length) (h ++ [.lst (xs ++ ys)]) := by
  show (Res.no).orElse _ = _
  simp only [orE_no, fCat, e, e2, if_pos hl]
theorem f_slice {m : Nat} {xs : List EV} (e : lstAt h m = some xs) (lo hi : Option Int) : fSl (.ref m) lo hi h = .ok (.ref h.length) (h ++ [.lst (cutE xs lo hi)]) := by
  simp only [fSl, e]
theorem f_rep {m : Nat} {xs : List EV} (e : mutAt h m = some xs) (h0 : 0 ≤ i) (h1 : i ≤ 1000) (hl : xs.length ≤ 10) : fMul (.ref m) (.int i) h = .ok (.ref h.length) (h ++ [.lst (List.replicate i.toNat xs).flatten]) := by
  show (Res.no).orElse _ = _
  simp only [orE_no, fRep, e]
  rw [if_pos (by simp [h0, h1, hl])]
end
theorem lst_mut {h : EH} {n : Nat} {xs : List EV} (e : mutAt h n = some xs) : lstAt h n = some xs := by
  unfold mutAt at e
  unfold lstAt
  split at e
  · rename_i q
    rw [q]
    exact e
  · cases e
theorem mutAt_lt {h : EH} {n : Nat} {xs : List EV} (e : mutAt h n = some xs) : n < h.length := by
  unfold mutAt at e
  split at e
  · rename_i q
    exact (List.getElem?_eq_some_iff.mp q).1
  · cases e
theorem lstAt_lt {h : EH} {n : Nat} {xs : List EV} (e : lstAt h n = some xs) : n < h.length := by
  unfold lstAt at e
  split at e
  · rename_i q
    exact (List.getElem?_eq_some_iff.mp q).1
  · rename_i q
    exact (List.getElem?_eq_some_iff.mp q).1
  · cases e
theorem lstAt_app {h t : EH} {n : Nat} {xs : List EV} (e : lstAt h n = some xs) : lstAt (h ++ t) n = some xs := by
  have hl := lstAt_lt e
  unfold lstAt at e ⊢
  rw [List.getElem?_append_left hl]
  exact e
theorem mutAt_app {h t : EH} {n : Nat} {xs : List EV} (e : mutAt h n = some xs) : mutAt (h ++ t) n = some xs := by
  have hl := mutAt_lt e
  unfold mutAt at e ⊢
  rw [List.getElem?_append_left hl]
  exact e
@[simp] theorem mutAt_new {h : EH} {xs : List EV} : mutAt (h ++ [.lst xs]) h.length = some xs := by
  unfold mutAt
  simp
@[simp] theorem lstAt_new {h : EH} {xs : List EV} : lstAt (h ++ [.lst xs]) h.length = some xs := lst_mut mutAt_new
theorem mutAt_set {h : EH} {n : Nat} {xs : List EV} (hn : n < h.length) : mutAt (h.set n (.lst xs)) n = some xs := by
  unfold mutAt
  rw [List.getElem?_set_self hn]
@[simp] theorem mutAt_new2 {h : EH} {o : EO} {xs : List EV} : mutAt (h ++ [o, .lst xs]) (h.length + 1) = some xs := by
  unfold mutAt
  rw [List.getElem?_append_right (by omega), Nat.add_sub_cancel_left]
  rfl
@[simp] theorem lstAt_new2 {h : EH} {o : EO} {xs : List EV} : lstAt (h ++ [o, .lst xs]) (h.length + 1) = some xs := lst_mut mutAt_new2
theorem lstAt_set {h : EH} {n : Nat} {xs : List EV} (hn : n < h.length) : lstAt (h.set n (.lst xs)) n = some xs := lst_mut (mutAt_set hn)
theorem mutAt_ne {h : EH} {m n : Nat} {o : EO} (hn : n ≠ m) : mutAt (h.set n o) m = mutAt h m := by
  unfold mutAt
  rw [List.getElem?_set_ne hn]
theorem lstAt_ne {h : EH} {m n : Nat} {o : EO} (hn : n ≠ m) : lstAt (h.set n o) m = lstAt h m := by
  unfold lstAt
  rw [List.getElem?_set_ne hn]
def Fr (X : List Nat) (h h' : EH) : Prop := h.length ≤ h'.length ∧ ∀ n, n < h.length → n ∉ X → h'[n]? = h[n]?
theorem Fr.refl (X : List Nat) (h : EH) : Fr X h h := ⟨Nat.le_refl _, fun _ _ _ => rfl⟩
theorem Fr.trans {X : List Nat} {h h1 h2 : EH} (a : Fr X h h1) (b : Fr X h1 h2) : Fr X h h2 := ⟨Nat.le_trans a.1 b.1, fun n hn hx => (b.2 n (Nat.lt_of_lt_of_le hn a.1) hx).trans (a.2 n hn hx)⟩
theorem Fr.app (X : List Nat) (h t : EH) : Fr X h (h ++ t) := ⟨by simp, fun n hn _ => List.getElem?_append_left hn⟩
theorem Fr.weak {X Y : List Nat} {h h' : EH} (a : Fr X h h') (hx : ∀ n ∈ X, n ∈ Y) : Fr Y h h' := ⟨a.1, fun n hn h => a.2 n hn fun q => h (hx n q)⟩
theorem Fr.set {X : List Nat} {h h' : EH} (a : Fr X h h') {n : Nat} {o : EO} (hn : n ∈ X ∨ h.length ≤ n) : Fr X h (h'.set n o) := ⟨by rw [List.length_set]; exact a.1, fun m hm hx => by
  rw [List.getElem?_set_ne]
  · exact a.2 m hm hx
  · intro e
    subst e
    rcases hn with z | z
    · exact hx z
    · omega⟩
theorem Fr.lst {X : List Nat} {h h' : EH} (a : Fr X h h') {n : Nat} {xs : List EV} (e : lstAt h n = some xs) (hx : n ∉ X) : lstAt h' n = some xs := by
  have hl := lstAt_lt e
  unfold lstAt at e ⊢
  rw [a.2 n hl hx]
  exact e
theorem Fr.mut {X : List Nat} {h h' : EH} (a : Fr X h h') {n : Nat} {xs : List EV} (e : mutAt h n = some xs) (hx : n ∉ X) : mutAt h' n = some xs := by
  have hl := mutAt_lt e
  unfold mutAt at e ⊢
  rw [a.2 n hl hx]
  exact e
theorem Fr.at {X : List Nat} {h h' : EH} (a : Fr X h h') {n : Nat} {o : EO} (e : h[n]? = some o) (hx : n ∉ X) : h'[n]? = some o := by
  rw [a.2 n (List.getElem?_eq_some_iff.mp e).1 hx]
  exact e
theorem tri_for {it : Wlk} {g : DG} {b : DS} {xs : List EV} {es : ES} {h : EH} {Q : Flw → EH → Prop} (I : Nat → ES → EH → Prop) (h0 : I 0 es h) (hcur : ∀ i es h, I i es h → it.cur h = some xs)
    (hstep : ∀ (i : Nat) (x : EV) es h (K : Flw → EH → Prop), xs[i]? = some x → I i es h → (∀ es2 h2, I (i + 1) es2 h2 → K (.nx es2) h2) → (∀ es2 h2, I (i + 1) es2 h2 → K (.ct es2) h2) → (∀ es2 h2, Q (.nx es2) h2 → K (.bk es2) h2) → (∀ v h2, Q (.rt v) h2 → K (.rt v) h2) →
      Tri (g (it.tl i x) es h) fun es1 h1 => Tri (b es1 h1) K)
    (hend : ∀ es h, I xs.length es h → Q (.nx es) h) : Tri (kFor g b es it h) Q := by
  have key : ∀ (m i : Nat) es h, i + m = xs.length + 1 → i ≤ xs.length → I i es h → Tri (forGo it g b m i es h) Q := by
    intro m
    induction m with
    | zero =>
      intro i es h hi hl hI
      exact absurd hi (by omega)
    | succ m ih =>
      intro i es h hi hl hI
      unfold forGo
      rw [hcur i es h hI]
      simp only
      cases hx : xs[i]? with
      | none =>
        have hge := List.getElem?_eq_none_iff.mp hx
        have : i = xs.length := by omega
        subst this
        exact hend es h hI
      | some x =>
        simp only
        have hlt := (List.getElem?_eq_some_iff.mp hx).1
        have hs := hstep i x es h (fun f h2 => match f with
          | .nx es2 => I (i + 1) es2 h2
          | .ct es2 => I (i + 1) es2 h2
          | .bk es2 => Q (.nx es2) h2
          | .rt v => Q (.rt v) h2) hx hI (fun _ _ q => q) (fun _ _ q => q) (fun _ _ q => q) (fun _ _ q => q)
        rw [tri_bind]
        refine hs.mono fun es1 h1 hs1 => ?_
        rw [tri_bind]
        refine hs1.mono fun f h2 hf => ?_
        cases f with
        | nx es2 => exact ih (i + 1) es2 h2 (by omega) (by omega) hf
        | ct es2 => exact ih (i + 1) es2 h2 (by omega) (by omega) hf
        | bk es2 => exact hf
        | rt v => exact hf
  unfold kFor
  rw [hcur 0 es h h0]
  exact key _ 0 es h (by omega) (by omega) h0
theorem tri_lc {it : Wlk} {g : DG} {t : DT} {e : DE} {vs : List Nat} {xs : List EV} {es : ES} {h : EH} {Q : EV → EH → Prop} (J : Nat → List EV → EH → Prop) (h0 : J 0 [] h) (hcur : ∀ i acc h, J i acc h → it.cur h = some xs)
    (hstep : ∀ (i : Nat) (x : EV) acc h, xs[i]? = some x → J i acc h → Tri (g (it.tl i x) (wip es vs) h) fun es1 h1 => Tri (t es1 h1) fun b h2 => if b = true then Tri (e es1 h2) fun y h3 => acc.length < 50000 ∧ J (i + 1) (acc ++ [y]) h3 else J (i + 1) acc h2)
    (hend : ∀ acc h, J xs.length acc h → Q (.ref h.length) (h ++ [.lst acc])) : Tri (kLc g t e vs es it h) Q := by
  have key : ∀ (m i : Nat) acc h, i + m = xs.length + 1 → i ≤ xs.length → J i acc h → Tri (lcGo it g t e vs m i acc es h) fun acc h => J xs.length acc h := by
    intro m
    induction m with
    | zero =>
      intro i acc h hi hl hI
      exact absurd hi (by omega)
    | succ m ih =>
      intro i acc h hi hl hI
      unfold lcGo
      rw [hcur i acc h hI]
      simp only
      cases hx : xs[i]? with
      | none =>
        have hge := List.getElem?_eq_none_iff.mp hx
        have : i = xs.length := by omega
        subst this
        exact hI
      | some x =>
        simp only
        have hs := hstep i x acc h hx hI
        have hlt := (List.getElem?_eq_some_iff.mp hx).1
        rw [tri_bind]
        refine hs.mono fun es1 h1 hs1 => ?_
        rw [tri_bind]
        refine hs1.mono fun b h2 hb => ?_
        cases b with
        | false => exact ih (i + 1) acc h2 (by omega) (by omega) hb
        | true =>
          simp only [if_true] at hb ⊢
          rw [tri_bind]
          refine hb.mono fun y h3 hy => ?_
          rw [if_pos hy.1]
          exact ih (i + 1) _ h3 (by omega) (by omega) hy.2
  unfold kLc
  rw [hcur 0 [] h h0]
  simp only
  rw [tri_bind]
  exact (key _ 0 [] h (by omega) (by omega) h0).mono fun acc h' hJ => hend acc h' hJ
def gvn (n : Nat) (p : Nat → Bool) (v : Nat → EV) : List EV := ((List.range n).filter p).map v
theorem gvn_zero (p : Nat → Bool) (v : Nat → EV) : gvn 0 p v = [] := rfl
theorem gvn_yes {n : Nat} {p : Nat → Bool} {v : Nat → EV} (h : p n = true) : gvn (n + 1) p v = gvn n p v ++ [v n] := by
  unfold gvn
  rw [List.range_succ, List.filter_append, List.map_append]
  simp [h]
theorem gvn_no {n : Nat} {p : Nat → Bool} {v : Nat → EV} (h : p n = false) : gvn (n + 1) p v = gvn n p v := by
  unfold gvn
  rw [List.range_succ, List.filter_append, List.map_append]
  simp [h]
theorem gvn_len (n : Nat) (p : Nat → Bool) (v : Nat → EV) : (gvn n p v).length ≤ n := by
  unfold gvn
  rw [List.length_map]
  have h := List.length_filter_le p (List.range n)
  rw [List.length_range] at h
  exact h
theorem tri_lcJ {it : Wlk} {j : Nat} {t : DT} {e : DE} {vs : List Nat} {xs : List EV} {es : ES} {h : EH} {Q : EV → EH → Prop} (J : Nat → List EV → EH → Prop) (h0 : J 0 [] h) (hcur : ∀ i acc h, J i acc h → it.cur h = some xs) (hacc : ∀ i acc h, J i acc h → acc.length < 50000)
    (hstep : ∀ (i : Nat) (x : EV) acc h (K : Bool → EH → Prop), xs[i]? = some x → J i acc h → (∀ h2, J (i + 1) acc h2 → K false h2) →
      (∀ h2, (∀ Ke : EV → EH → Prop, (∀ y h3, J (i + 1) (acc ++ [y]) h3 → Ke y h3) → Tri (e ((wip es vs).set j (some (it.tl i x))) h2) Ke) → K true h2) → Tri (t ((wip es vs).set j (some (it.tl i x))) h) K)
    (hend : ∀ acc h, J xs.length acc h → Q (.ref h.length) (h ++ [.lst acc])) : Tri (kLc (dName j) t e vs es it h) Q := by
  refine tri_lc (xs := xs) J h0 hcur (fun i x acc h' hx q => ?_) hend
  simp only [ap_name, tri_ok]
  refine hstep i x acc h' _ hx q (fun h2 q2 => ?_) (fun h2 q2 => ?_)
  · rw [if_neg (by decide)]
    exact q2
  · rw [if_pos rfl]
    refine q2 _ fun y h3 q3 => ⟨hacc i acc h' q, q3⟩
theorem tri_lcP {it : Wlk} {j : Nat} {t : DT} {e : DE} {vs : List Nat} {xs : List EV} {es : ES} {h : EH} {Q : EV → EH → Prop} (p : Nat → Bool) (v : Nat → EV) (hl : xs.length < 50000) (hcur : ∀ h', Fr [] h h' → it.cur h' = some xs)
    (ht : ∀ (i : Nat) (x : EV) h' (K : Bool → EH → Prop), xs[i]? = some x → Fr [] h h' → (∀ h2, Fr [] h' h2 → K (p i) h2) → Tri (t ((wip es vs).set j (some (it.tl i x))) h') K)
    (he : ∀ (i : Nat) (x : EV) h' (K : EV → EH → Prop), xs[i]? = some x → Fr [] h h' → p i = true → (∀ h2, Fr [] h' h2 → K (v i) h2) → Tri (e ((wip es vs).set j (some (it.tl i x))) h') K)
    (hend : ∀ h', Fr [] h h' → Q (.ref h'.length) (h' ++ [.lst (gvn xs.length p v)])) : Tri (kLc (dName j) t e vs es it h) Q := by
  refine tri_lc (xs := xs) (fun i acc h' => Fr [] h h' ∧ acc = gvn i p v) ⟨Fr.refl _ _, rfl⟩ (fun i acc h' q => hcur h' q.1) (fun i x acc h' hx q => ?_) fun acc h' q => ?_
  · obtain ⟨hf, rfl⟩ := q
    simp only [ap_name, tri_ok]
    have hlt := (List.getElem?_eq_some_iff.mp hx).1
    refine ht i x h' _ hx hf fun h2 f2 => ?_
    cases hp : p i with
    | false =>
      rw [if_neg (by decide)]
      exact ⟨hf.trans f2, (gvn_no hp).symm⟩
    | true =>
      rw [if_pos rfl]
      refine he i x h2 _ hx (hf.trans f2) hp fun h3 f3 => ?_
      exact ⟨by have := gvn_len i p v; omega, (hf.trans f2).trans f3, (gvn_yes hp).symm⟩
  · obtain ⟨hf, rfl⟩ := q
    exact hend h' hf
theorem gvn_false (n : Nat) (v : Nat → EV) : gvn n (fun _ => false) v = [] := by
  unfold gvn
  simp
theorem gvn_true (n : Nat) (v : Nat → EV) : gvn n (fun _ => true) v = (List.range n).map v := by
  unfold gvn
  congr 1
  exact List.filter_eq_self.mpr (by simp)
end EE
set_option Elab.async false
set_option linter.all false
set_option maxRecDepth 100000
set_option maxHeartbeats 1000000
namespace EE
open PySem L2
section
variable (es : ES) (h : EH)
def kSM0 (f : EV → DL) : EV → EH → Res EV := fun x h1 => match x with
  | .str _ => f x [] h1
  | _ => .no
@[simp] theorem ap_sm0 (f : EV → DL) (o : DE) : dSM0 f o es h = (o es h).bind (kSM0 f) := rfl
@[simp] theorem ap_kSM0 (f : EV → DL) (s : Str) : kSM0 f (.str s) h = f (.str s) [] h := rfl
def kSM1b (f : EV → DL) (x : EV) : EV → EH → Res EV := fun y h2 => f x [y] h2
def kSM1 (f : EV → DL) (a : DE) (es : ES) : EV → EH → Res EV := fun x h1 => match x with
  | .str _ => (a es h1).bind (kSM1b f x)
  | _ => .no
@[simp] theorem ap_sm1 (f : EV → DL) (o a : DE) : dSM1 f o a es h = (o es h).bind (kSM1 f a es) := rfl
@[simp] theorem ap_kSM1 (f : EV → DL) (a : DE) (s : Str) : kSM1 f a es (.str s) h = (a es h).bind (kSM1b f (.str s)) := rfl
@[simp] theorem ap_kSM1b (f : EV → DL) (x y : EV) : kSM1b f x y h = f x [y] h := rfl
def kStarA2 (ys : List EV) : List EV → EH → Res (List EV) := fun xs h2 => .ok (ys ++ xs) h2
def kStarA (r : DA) (es : ES) : EV → EH → Res (List EV) := fun x h1 => match itemsE h1 x with
  | some ys => (r es h1).bind (kStarA2 ys)
  | none => .no
@[simp] theorem ap_starA (a : DE) (r : DA) : dStarA a r es h = (a es h).bind (kStarA r es) := rfl
@[simp] theorem ap_kStarA2 (ys xs : List EV) : kStarA2 ys xs h = .ok (ys ++ xs) h := rfl
theorem kStarA_ref {h : EH} (r : DA) {n : Nat} {ys : List EV} (e : lstAt h n = some ys) : kStarA r es (.ref n) h = (r es h).bind (kStarA2 ys) := by
  simp [kStarA, itemsE, e]
theorem kStarA_tup (r : DA) (ys : List EV) : kStarA r es (.tup ys) h = (r es h).bind (kStarA2 ys) := rfl
theorem f_catS (i j : Str) (hl : i.length + j.length ≤ 100000) : fCatS (.str i) (.str j) h = .ok (.str (i ++ j)) h := by
  simp only [fCatS, if_pos hl]
theorem f_strI (i : Int) (hi : i.natAbs < 2 ^ 64) : fStr [.int i] h = .ok (.str (toString i)) h := by
  show (fStrI _ _).orElse _ = _
  simp only [fStrI]
  rw [if_pos]
  · rfl
  · by_cases z : i.natAbs = 0
    · rw [z]
      exact (by decide : Nat.log2 0 < 1920)
    · exact Nat.lt_trans ((Nat.log2_lt z).mpr hi) (by decide)
@[simp] theorem f_strS (s : Str) : fStr [.str s] h = .ok (.str s) h := rfl
theorem f_intS {s : Str} {n : Int} (e : PySem.intText? s = some n) (hl : s.length ≤ 640) : fIntS [.str s] h = .ok (.int n) h := by
  simp only [fIntS, e, if_pos hl]
theorem f_lenS (s : Str) (hl : s.length ≤ 100000) : fLenS [.str s] h = .ok (.int s.length) h := by
  simp only [fLenS, if_pos hl]
theorem m_joinL {h : EH} {a : Str} {n : Nat} {ss : List Str} (e : lstAt h n = some (ss.map EV.str)) (hl : (ss.map (·.length)).sum + ss.length * a.length ≤ 16777216) : mJoin (.str a) [.ref n] h = .ok (.str (Txt.join a ss)) h := by
  simp only [mJoin, e, strsE_map, if_pos hl]
theorem m_splitS (a b : Str) (hb : (b.length == 0) = false) (hl : a.length ≤ 99998) : mSplit (.str a) [.str b] h = .ok (.ref h.length) (h ++ [.lst ((Txt.split a b).map EV.str)]) := by
  simp only [mSplit, if_pos (And.intro hb hl)]
@[simp] theorem m_asciiS (a : Str) : mIsascii (.str a) [] h = .ok (.bl (Txt.isascii a)) h := rfl
@[simp] theorem m_digitS (a : Str) : mIsdigit (.str a) [] h = .ok (.bl (Txt.isdigit a)) h := rfl
@[simp] theorem m_startsS (a b : Str) : mStarts (.str a) [.str b] h = .ok (.bl (Txt.startswith a b)) h := rfl
def kItE : List EV → EH → Res Wlk := fun xs h1 => match xs with
  | [.ref n] => match lstAt h1 n with
    | some _ => .ok ⟨some n, [], fun i x => .tup [.int i, x]⟩ h1
    | none => .no
  | _ => .no
@[simp] theorem ap_itE (a : DA) : dItE a es h = (a es h).bind kItE := rfl
theorem kItE_ref {h : EH} {n : Nat} {xs : List EV} (e : lstAt h n = some xs) : kItE [.ref n] h = .ok ⟨some n, [], fun i x => .tup [.int i, x]⟩ h := by
  simp [kItE, e]
theorem ap_gstarL {h : EH} {n i0 : Nat} {xs : List EV} (r : DGs) (e : lstAt h n = some xs) (hl : i0 ≤ xs.length) : dGStarL i0 r (.ref n) es h = r (xs.take i0 ++ [.ref h.length]) es (h ++ [.lst (xs.drop i0)]) := by
  simp only [dGStarL, e, if_pos hl]
def kKGet (tab : List (Str × Int)) : EV → EH → Res EV := fun x h1 => match x with
  | .str s => .ok (match tab.lookup s with
    | some i => .int i
    | none => .non) h1
  | _ => .no
@[simp] theorem ap_kget (tab : List (Str × Int)) (a : DE) : dKGet tab a es h = (a es h).bind (kKGet tab) := rfl
theorem kKGet_some {tab : List (Str × Int)} {s : Str} {i : Int} (e : tab.lookup s = some i) : kKGet tab (.str s) h = .ok (.int i) h := by
  simp only [kKGet, e]
theorem kKGet_none {tab : List (Str × Int)} {s : Str} (e : tab.lookup s = none) : kKGet tab (.str s) h = .ok .non h := by
  simp only [kKGet, e]
theorem f_slT {xs : List EV} {lo hi : Option Int} (hw : ¬ (HT.sIx xs.length 0 lo = 0 ∧ HT.sIx xs.length xs.length hi = xs.length)) : fSlT (.tup xs) lo hi h = .ok (.tup (cutE xs lo hi)) h := by
  simp only [fSlT, if_pos hw]
theorem f_slT1 (x : EV) (xs : List EV) : fSlT (.tup (x :: xs)) (some 1) none h = .ok (.tup xs) h := by
  rw [f_slT]
  · have e1 : HT.sIx (x :: xs).length 0 (some 1) = 1 := by
      have := HT.sIx_nat (x :: xs).length 0 1
      rw [show (some 1 : Option Int) = some ((1 : Nat) : Int) from rfl, this]
      simp
    have e2 : HT.sIx (x :: xs).length (x :: xs).length none = (x :: xs).length := rfl
    unfold cutE
    rw [e1, e2]
    simp
  · have e1 : HT.sIx (x :: xs).length 0 (some 1) = 1 := by
      have := HT.sIx_nat (x :: xs).length 0 1
      rw [show (some 1 : Option Int) = some ((1 : Nat) : Int) from rfl, this]
      simp
    rw [e1]
    omega
end
end EE
set_option Elab.async false
set_option linter.all false
set_option maxRecDepth 100000
set_option maxHeartbeats 1000000
namespace EE
open PySem L2
section
variable (es : ES) (h : EH)
@[simp] theorem ap_callX (f : DL) (a : DA) : dCallX f a es h = (a es h).bind f := rfl
@[simp] theorem ap_rev (a : DE) : dRev a es h = (a es h).bind fRev := rfl
theorem f_rev {h : EH} {n : Nat} {xs : List EV} (e : lstAt h n = some xs) : fRev (.ref n) h = .ok (.ref h.length) (h ++ [.lst xs.reverse]) := by
  simp only [fRev, e]
theorem ap_isX (a : Addr) (d : Option Addr) (i : Nat) (b : Bool) {nm : List Str} {fs : List EV} (e : es[i]? = some (some (.exc a d nm fs))) : dIsX a d i b es h = .ok (.bl b) h := by
  simp [dIsX, e]
theorem ap_xf (a d : Addr) (i : Nat) (f : Str) {x : EV} (e : es[i]? = some (some (.exc a (some d) [f] [x]))) : dXf a (some d) i f es h = .ok x h := by
  simp [dXf, e]
def kRaiseN (c : Nat) (c1 c2 : Str) : EV → EH → Res Flw := fun x h1 => match x with
  | .int i => if i.natAbs.log2 < 1920 ∧ ((Str.empty ++ c1) ++ toString i).length + c2.length ≤ 100000 then .er ⟨c, [.int i]⟩ h1 else .no
  | _ => .no
@[simp] theorem ap_raiseN (c : Nat) (c1 c2 : Str) (a : DE) : dRaiseN c c1 c2 a es h = (a es h).bind (kRaiseN c c1 c2) := rfl
@[simp] theorem ap_raise (c : Nat) : dRaise c es h = .er ⟨c, []⟩ h := rfl
def kAllIn (iD : Nat) (es : ES) : EV → EH → Res EV := fun v h1 => match v, es[iD]? with
  | .ref n, some (some (.ref m)) => match lstAt h1 n, dicAt h1 m with
    | some ws, some (false, kvs) => match inAllE kvs ws with
      | some b => .ok (.bl b) h1
      | none => .no
    | _, _ => .no
  | .ref n, some (some (.tup ys)) => match lstAt h1 n with
    | some ws => match intsE ws, intsE ys with
      | some l, some m => .ok (.bl (l.all fun i => decide (i ∈ m))) h1
      | _, _ => .no
    | none => .no
  | _, _ => .no
@[simp] theorem ap_allIn (iD : Nat) (d : DE) : dAllIn iD d es h = (d es h).bind (kAllIn iD es) := rfl
end
theorem word_ok {rs : Nat → List EV → EH → Option (EV × EH)} {d : DE} {es : ES} {h h' : EH} {v : EV} (e : d es h = .ok v h') : dWord rs d es h = .ok v h' := by
  unfold dWord; rw [e]
theorem word_er {rs : Nat → List EV → EH → Option (EV × EH)} {d : DE} {es : ES} {h h1 h2 : EH} {x : Exn} {v : EV} (e : d es h = .er x h1) (q : rs x.c x.fs h1 = some (v, h2)) : dWord rs d es h = .ok v h2 := by
  unfold dWord; rw [e]; simp only [q]
end EE
set_option Elab.async false
set_option linter.all false
set_option maxRecDepth 100000
set_option maxHeartbeats 1000000
namespace EE
open PySem L2
section
variable (es : ES) (h : EH)
def kFld (c i : Nat) : EV → EH → Res EV := fun x h1 => match x with
  | .ref n => match objAt c h1 n with
    | some fs => match fs[i]? with
      | some (some v) => .ok v h1
      | _ => .no
    | none => .no
  | _ => .no
@[simp] theorem ap_fld (c i : Nat) (o : DE) : dFld c i o es h = (o es h).bind (kFld c i) := rfl
def kSetF2 (c i : Nat) (es : ES) (y : EV) : EV → EH → Res Flw := fun x h2 => match x with
  | .ref n => match objAt c h2 n with
    | some fs => .ok (.nx es) (h2.set n (.obj c (fs.set i (some y))))
    | none => .no
  | _ => .no
def kSetF (c i : Nat) (o : DE) (es : ES) : EV → EH → Res Flw := fun y h1 => (o es h1).bind (kSetF2 c i es y)
@[simp] theorem ap_setF (c i : Nat) (o v : DE) : dSetF c i o v es h = (v es h).bind (kSetF c i o es) := rfl
@[simp] theorem ap_kSetF (c i : Nat) (o : DE) (y : EV) : kSetF c i o es y h = (o es h).bind (kSetF2 c i es y) := rfl
def kAugF3 (c i n : Nat) (es : ES) : EV → EH → Res Flw := fun z h3 => match objAt c h3 n with
  | some fs' => .ok (.nx es) (h3.set n (.obj c (fs'.set i (some z))))
  | none => .no
def kAugF2 (c i : Nat) (f : D2) (n : Nat) (w : EV) (es : ES) : EV → EH → Res Flw := fun y h2 => (f w y h2).bind (kAugF3 c i n es)
def kAugF (c i : Nat) (f : D2) (v : DE) (es : ES) : EV → EH → Res Flw := fun x h1 => match x with
  | .ref n => match objAt c h1 n with
    | some fs => match fs[i]? with
      | some (some w) => (v es h1).bind (kAugF2 c i f n w es)
      | _ => .no
    | none => .no
  | _ => .no
@[simp] theorem ap_augF (c i : Nat) (f : D2) (o v : DE) : dAugF c i f o v es h = (o es h).bind (kAugF c i f v es) := rfl
@[simp] theorem ap_kAugF2 (c i : Nat) (f : D2) (n : Nat) (w y : EV) : kAugF2 c i f n w es y h = (f w y h).bind (kAugF3 c i n es) := rfl
def kMeth2 (fn : DL) (x : EV) : List EV → EH → Res EV := fun xs h2 => (fn (x :: xs) h2).noer
def kMeth (c : Nat) (fn : DL) (a : DA) (es : ES) : EV → EH → Res EV := fun x h1 => match x with
  | .ref n => match objAt c h1 n with
    | some _ => (a es h1).bind (kMeth2 fn x)
    | none => .no
  | _ => .no
@[simp] theorem ap_meth (c : Nat) (fn : DL) (o : DE) (a : DA) : dMeth c fn o a es h = (o es h).bind (kMeth c fn a es) := rfl
@[simp] theorem ap_kMeth2 (fn : DL) (x : EV) (xs : List EV) : kMeth2 fn x xs h = (fn (x :: xs) h).noer := rfl
def kMake2 (n : Nat) : EV → EH → Res EV := fun v h2 => match v with
  | .non => .ok (.ref n) h2
  | _ => .no
def kMake (c nf : Nat) (fn : DL) : List EV → EH → Res EV := fun xs h1 => (fn (.ref h1.length :: xs) (h1 ++ [.obj c (List.replicate nf none)])).noer.bind (kMake2 h1.length)
@[simp] theorem ap_make (c nf : Nat) (fn : DL) (a : DA) : dMake c nf fn a es h = (a es h).bind (kMake c nf fn) := rfl
@[simp] theorem ap_kMake (c nf : Nat) (fn : DL) (xs : List EV) : kMake c nf fn xs h = (fn (.ref h.length :: xs) (h ++ [.obj c (List.replicate nf none)])).noer.bind (kMake2 h.length) := rfl
@[simp] theorem ap_kMake2 (n : Nat) : kMake2 n .non h = .ok (.ref n) h := rfl
@[simp] theorem ap_newD (t : Bool) : dNewD t es h = .ok (.ref h.length) (h ++ [.dic t []]) := rfl
def kBMD (f : EV → DL) (a : DA) (es : ES) : EV → EH → Res EV := fun x h1 => match x with
  | .ref n => match mdicAt h1 n with
    | some _ => (a es h1).bind (kBM2 f x)
    | none => .no
  | _ => .no
@[simp] theorem ap_bmD (f : EV → DL) (o : DE) (a : DA) : dBMD f o a es h = (o es h).bind (kBMD f a es) := rfl
def kItK : EV → EH → Res Wlk := fun x h1 => match x with
  | .ref n => match lkAt h1 n with
    | some (_, kvs) => .ok ⟨none, kvs.map (·.1), fun _ x => x⟩ h1
    | none => .no
  | _ => .no
@[simp] theorem ap_itK (a : DE) : dItK a es h = (a es h).bind kItK := rfl
def kItIT : EV → EH → Res Wlk := fun x h1 => match x with
  | .ref n => match lkAt h1 n with
    | some (true, kvs) => .ok ⟨none, kvs.map (fun p => .tup [p.1, p.2]), fun _ x => x⟩ h1
    | _ => .no
  | _ => .no
@[simp] theorem ap_itIT (a : DE) : dItIT a es h = (a es h).bind kItIT := rfl
def kTru : EV → EH → Res Bool := fun x h1 => match x with
  | .tup xs => .ok (!xs.isEmpty) h1
  | .bl b => .ok b h1
  | .non => .ok false h1
  | .int i => .ok (i != 0) h1
  | .ref n => match lstAt h1 n with
    | some xs => .ok (!xs.isEmpty) h1
    | none => match mdicAt h1 n with
      | some (false, kvs) => .ok (!kvs.isEmpty) h1
      | _ => .no
  | _ => .no
@[simp] theorem ap_tru (a : DE) : dTru a es h = (a es h).bind kTru := rfl
@[simp] theorem ap_kTruT (xs : List EV) : kTru (.tup xs) h = .ok (!xs.isEmpty) h := rfl
def kDc2 (kd : Bool) : List (EV × EV) → EH → Res EV := fun ys h2 => .ok (.ref h2.length) (h2 ++ [.dic kd ys])
def kDc (kd : Bool) (g : DG) (t : DT) (k e : DE) (vs : List Nat) (es : ES) : Wlk → EH → Res EV := fun it h1 => match it.cur h1 with
  | none => .no
  | some xs => (dcGo kd it g t k e vs (xs.length + 1) 0 [] es h1).bind (kDc2 kd)
@[simp] theorem ap_dc (kd : Bool) (di : DI) (g : DG) (t : DT) (k e : DE) (vs : List Nat) : dDc kd di g t k e vs es h = (di es h).bind (kDc kd g t k e vs es) := rfl
end
section
variable {es : ES} {h : EH} {n : Nat}
theorem objAt_of {c : Nat} {fs : List (Option EV)} (e : h[n]? = some (.obj c fs)) : objAt c h n = some fs := by
  unfold objAt
  rw [e]
  exact if_pos rfl
theorem mdicAt_of {t : Bool} {kvs : List (EV × EV)} (e : h[n]? = some (.dic t kvs)) : mdicAt h n = some (t, kvs) := by
  unfold mdicAt
  rw [e]
theorem dicAt_of {t : Bool} {kvs : List (EV × EV)} (e : h[n]? = some (.dic t kvs) ∨ h[n]? = some (.lkd t kvs)) : dicAt h n = some (t, kvs) := by
  unfold dicAt
  rcases e with e | e <;> rw [e]
theorem lkAt_of {t : Bool} {kvs : List (EV × EV)} (e : h[n]? = some (.lkd t kvs)) : lkAt h n = some (t, kvs) := by
  unfold lkAt
  rw [e]
theorem lstAt_of {xs : List EV} (e : h[n]? = some (.lst xs)) : lstAt h n = some xs := by
  unfold lstAt
  rw [e]
theorem mutAt_of {xs : List EV} (e : h[n]? = some (.lst xs)) : mutAt h n = some xs := by
  unfold mutAt
  rw [e]
theorem kFld_ref {c i : Nat} {fs : List (Option EV)} {v : EV} (e : h[n]? = some (.obj c fs)) (ev : fs[i]? = some (some v)) : kFld c i (.ref n) h = .ok v h := by
  simp only [kFld, objAt_of e, ev]
theorem kSetF2_ref {c i : Nat} {fs : List (Option EV)} {y : EV} (e : h[n]? = some (.obj c fs)) : kSetF2 c i es y (.ref n) h = .ok (.nx es) (h.set n (.obj c (fs.set i (some y)))) := by
  simp only [kSetF2, objAt_of e]
theorem kAugF_ref {c i : Nat} {f : D2} {v : DE} {fs : List (Option EV)} {w : EV} (e : h[n]? = some (.obj c fs)) (ev : fs[i]? = some (some w)) : kAugF c i f v es (.ref n) h = (v es h).bind (kAugF2 c i f n w es) := by
  simp only [kAugF, objAt_of e, ev]
theorem kAugF3_ref {c i : Nat} {fs : List (Option EV)} {z : EV} (e : h[n]? = some (.obj c fs)) : kAugF3 c i n es z h = .ok (.nx es) (h.set n (.obj c (fs.set i (some z)))) := by
  simp only [kAugF3, objAt_of e]
theorem kMeth_ref {c : Nat} {fn : DL} {a : DA} {fs : List (Option EV)} (e : h[n]? = some (.obj c fs)) : kMeth c fn a es (.ref n) h = (a es h).bind (kMeth2 fn (.ref n)) := by
  simp only [kMeth, objAt_of e]
theorem kBMD_ref {f : EV → DL} {a : DA} {t : Bool} {kvs : List (EV × EV)} (e : h[n]? = some (.dic t kvs)) : kBMD f a es (.ref n) h = (a es h).bind (kBM2 f (.ref n)) := by
  simp only [kBMD, mdicAt_of e]
theorem kItK_ref {t : Bool} {kvs : List (EV × EV)} (e : h[n]? = some (.lkd t kvs)) : kItK (.ref n) h = .ok ⟨none, kvs.map (·.1), fun _ x => x⟩ h := by
  simp only [kItK, lkAt_of e]
theorem kItIT_ref {kvs : List (EV × EV)} (e : h[n]? = some (.lkd true kvs)) : kItIT (.ref n) h = .ok ⟨none, kvs.map (fun p => .tup [p.1, p.2]), fun _ x => x⟩ h := by
  simp only [kItIT, lkAt_of e]
theorem f_dget {t : Bool} {kvs : List (EV × EV)} {x v : EV} (e : h[n]? = some (.dic t kvs) ∨ h[n]? = some (.lkd t kvs)) (hg : dgetE t kvs x = some (some v)) : fDGet (.ref n) x h = .ok v h := by
  simp only [fDGet, dicAt_of e, hg]
theorem f_din {neg t : Bool} {kvs : List (EV × EV)} {x : EV} {o : Option EV} (e : h[n]? = some (.dic t kvs) ∨ h[n]? = some (.lkd t kvs)) (hg : dgetE t kvs x = some o) : fDIn neg x (.ref n) h = .ok (.bl (neg ^^ o.isSome)) h := by
  simp only [fDIn, dicAt_of e, hg]
theorem s_dic {t : Bool} {kvs kvs' : List (EV × EV)} {x v : EV} (e : h[n]? = some (.dic t kvs)) (hp : dputE t kvs x v = some kvs') (hl : kvs.length < 100000) : sDic (.ref n) x v h = .ok () (h.set n (.dic t kvs')) := by
  simp only [sDic, mdicAt_of e, hp, if_pos hl]
theorem m_pop_yes {kvs : List (EV × EV)} {x z v : EV} {k : List Key} (e : h[n]? = some (.dic true kvs)) (hk : tkeyOf x = some k) (hv : dval tkeyOf kvs k = some v) : mPopT (.ref n) [x, z] h = .ok v (h.set n (.dic true (ddrop tkeyOf kvs k))) := by
  simp only [mPopT, mdicAt_of e, hk, hv]
theorem m_pop_no {kvs : List (EV × EV)} {x z : EV} {k : List Key} (e : h[n]? = some (.dic true kvs)) (hk : tkeyOf x = some k) (hv : dval tkeyOf kvs k = none) : mPopT (.ref n) [x, z] h = .ok z h := by
  simp only [mPopT, mdicAt_of e, hk, hv]
theorem f_keysT {kvs : List (EV × EV)} (e : h[n]? = some (.dic true kvs) ∨ h[n]? = some (.lkd true kvs)) : fKeysT [.ref n] h = .ok (.ref h.length) (h ++ [.lst (kvs.map (·.1))]) := by
  simp only [fKeysT, dicAt_of e]
theorem f_tupL {xs : List EV} (e : lstAt h n = some xs) : fTupL [.ref n] h = .ok (.tup xs) h := by
  simp only [fTupL, e]
theorem lstAt_dic {t : Bool} {kvs : List (EV × EV)} (e : h[n]? = some (.dic t kvs) ∨ h[n]? = some (.lkd t kvs)) : lstAt h n = none := by
  unfold lstAt
  rcases e with e | e <;> rw [e]
theorem f_sortI {xs : List EV} {l : List Int} (e : lstAt h n = some xs) (hl : intsE xs = some l) : fSorted [.ref n] h = .ok (.ref h.length) (h ++ [.lst ((isort l).map EV.int)]) := by
  show (fSortI _ _).orElse _ = _
  simp only [fSortI, e, hl]
  rfl
theorem f_sortT {kvs : List (EV × EV)} {l : List (Int × Int)} (e : h[n]? = some (.dic true kvs) ∨ h[n]? = some (.lkd true kvs)) (hl : pairsE (kvs.map (·.1)) = some l) : fSorted [.ref n] h = .ok (.ref h.length) (h ++ [.lst ((psort l).map pairE)]) := by
  show (fSortI _ _).orElse _ = _
  simp only [fSortI, lstAt_dic e, orE_no]
  show (fSortT _ _).orElse _ = _
  simp only [fSortT, dicAt_of e, hl]
  rfl
theorem f_sortD {kvs : List (EV × EV)} {l : List Int} (e : h[n]? = some (.dic false kvs) ∨ h[n]? = some (.lkd false kvs)) (hl : intsE (kvs.map (·.1)) = some l) (h64 : l.length < 64) : fSorted [.ref n] h = .ok (.ref h.length) (h ++ [.lst ((isort l).map EV.int)]) := by
  show (fSortI _ _).orElse _ = _
  simp only [fSortI, lstAt_dic e, orE_no]
  show (fSortT _ _).orElse _ = _
  simp only [fSortT, dicAt_of e, orE_no]
  show fSortD _ _ = _
  simp only [fSortD, dicAt_of e, hl, if_pos h64]
theorem f_dictT {xs : List EV} {kvs : List (EV × EV)} (e : lstAt h n = some xs) (hk : dfoldT [] xs = some kvs) : fDictT [.ref n] h = .ok (.ref h.length) (h ++ [.dic true kvs]) := by
  simp only [fDictT, e, hk]
theorem lock_fr {h1 : EH} {t : Bool} {kvs : List (EV × EV)} (e : h[n]? = some (.dic t kvs)) (f : Fr [] (h.set n (.lkd t kvs)) h1) : Fr [] h (h1.set n (.dic t kvs)) := by
  have hl := (List.getElem?_eq_some_iff.mp e).1
  refine ⟨by rw [List.length_set]; have := f.1; rw [List.length_set] at this; exact this, fun m hm _ => ?_⟩
  by_cases hmn : n = m
  · subst hmn
    have := f.1
    rw [List.length_set] at this
    rw [List.getElem?_set_self (by omega), e]
  · rw [List.getElem?_set_ne hmn, f.2 m (by rw [List.length_set]; exact hm) (by simp), List.getElem?_set_ne hmn]
theorem lock_at {h1 : EH} {t : Bool} {kvs : List (EV × EV)} (e : h[n]? = some (.dic t kvs)) (f : Fr [] (h.set n (.lkd t kvs)) h1) : h1[n]? = some (.lkd t kvs) :=
  f.at (List.getElem?_set_self (List.getElem?_eq_some_iff.mp e).1) (by simp)
theorem tri_lockE {sel d : DE} {t : Bool} {kvs : List (EV × EV)} {hs : EH} {Q : EV → EH → Prop} (es0 : sel es h = .ok (.ref n) hs) (e : h[n]? = some (.dic t kvs))
    (hd : Tri (d es (h.set n (.lkd t kvs))) fun v h1 => Fr [] (h.set n (.lkd t kvs)) h1 ∧ Q v (h1.set n (.dic t kvs))) : Tri (dLockE sel d es h) Q := by
  unfold dLockE rLock
  simp only [es0, mdicAt_of e]
  rw [tri_bind, tri_noer]
  refine hd.mono fun v h1 ⟨f, q⟩ => ?_
  rw [lkAt_of (lock_at e f)]
  exact q
theorem tri_dc {kd : Bool} {it : Wlk} {g : DG} {t : DT} {k e : DE} {vs : List Nat} {xs : List EV} {Q : EV → EH → Prop} (J : Nat → List (EV × EV) → EH → Prop) (h0 : J 0 [] h) (hcur : ∀ i acc h, J i acc h → it.cur h = some xs)
    (hstep : ∀ (i : Nat) (x : EV) acc h, xs[i]? = some x → J i acc h → Tri (g (it.tl i x) (wip es vs) h) fun es1 h1 => Tri (t es1 h1) fun b h2 => if b = true then Tri (k es1 h2) fun y h3 => Tri (e es1 h3) fun z h4 => ∃ acc', dputE kd acc y z = some acc' ∧ acc.length < 50000 ∧ J (i + 1) acc' h4 else J (i + 1) acc h2)
    (hend : ∀ acc h, J xs.length acc h → Q (.ref h.length) (h ++ [.dic kd acc])) : Tri (kDc kd g t k e vs es it h) Q := by
  have key : ∀ (m i : Nat) acc h, i + m = xs.length + 1 → i ≤ xs.length → J i acc h → Tri (dcGo kd it g t k e vs m i acc es h) fun acc h => J xs.length acc h := by
    intro m
    induction m with
    | zero =>
      intro i acc h hi hl hI
      exact absurd hi (by omega)
    | succ m ih =>
      intro i acc h hi hl hI
      unfold dcGo
      rw [hcur i acc h hI]
      simp only
      cases hx : xs[i]? with
      | none =>
        have hge := List.getElem?_eq_none_iff.mp hx
        have : i = xs.length := by omega
        subst this
        exact hI
      | some x =>
        simp only
        have hs := hstep i x acc h hx hI
        have hlt := (List.getElem?_eq_some_iff.mp hx).1
        rw [tri_bind]
        refine hs.mono fun es1 h1 hs1 => ?_
        rw [tri_bind]
        refine hs1.mono fun b h2 hb => ?_
        cases b with
        | false => exact ih (i + 1) acc h2 (by omega) (by omega) hb
        | true =>
          simp only [if_true] at hb ⊢
          rw [tri_bind]
          refine hb.mono fun y h3 hy => ?_
          rw [tri_bind]
          refine hy.mono fun z h4 ⟨acc', q1, q2, q3⟩ => ?_
          rw [q1]
          simp only
          rw [if_pos q2]
          exact ih (i + 1) _ h4 (by omega) (by omega) q3
  unfold kDc
  rw [hcur 0 [] h h0]
  simp only
  rw [tri_bind]
  exact (key _ 0 [] h (by omega) (by omega) h0).mono fun acc h' hJ => hend acc h' hJ
end
end EE
set_option Elab.async false
set_option linter.all false
set_option maxRecDepth 100000
set_option maxHeartbeats 4000000
namespace LW
open PySem L2 EE
def b__law_start : DS :=
  (dSeq (dAsg (dC (.int 1)) (dName 1))
  (dSeq (dFor (dItL (dVar 0)) (dName 2)
  (dAsg (dOp fMod (dOp fAdd (dOp fAdd (dOp fMul (dVar 1) (dC (.int 48271))) (dVar 2)) (dC (.int 7))) (dC (.int 2147483647))) (dName 1)))
  (dRet (dLst (dCons (dVar 0) (dCons (dC (.int 0)) (dCons (dVar 1) (dCons (dC (.int 0)) dNil))))))))
def m__law_start : DL := dDef 1 3 b__law_start
theorem u__law_start (a0 : EV) (h : EH) : m__law_start [a0] h = (b__law_start [some a0, none, none] h).bind kDef := rfl
def b__law_drawn : DS :=
  (dSeq (dIfS (dB (dOp fGt (dOp fIx (dVar 0) (dC (.int 3))) (dC (.int 0)))) (dSeq (dAsg (dOp fMod (dOp fIx (dVar 0) (dC (.int 3))) (dVar 1)) (dName 2))
  (dSeq (dAsg (dOp fDiv (dOp fIx (dVar 0) (dC (.int 3))) (dVar 1)) (dGSub (dVar 0) (dC (.int 3)) sLst))
  (dRet (dVar 2))))
  dNext)
  (dSeq (dAsg (dOp fAdd (dOp fIx (dVar 0) (dC (.int 1))) (dC (.int 1))) (dGSub (dVar 0) (dC (.int 1)) sLst))
  (dSeq (dIfS (dB (dOp fLe (dOp fIx (dVar 0) (dC (.int 1))) (dCB fLen (dCons (dOp fIx (dVar 0) (dC (.int 0))) dNil)))) (dSeq (dAsg (dOp fIx (dOp fIx (dVar 0) (dC (.int 0))) (dOp fSub (dOp fIx (dVar 0) (dC (.int 1))) (dC (.int 1)))) (dName 3))
  (dSeq (dAsg (dIf (dB (dOp fGe (dVar 3) (dOp fPow (dC (.int 10)) (dC (.int 18))))) (dOp fDiv (dVar 3) (dVar 1)) (dC (.int 0))) (dGSub (dVar 0) (dC (.int 3)) sLst))
  (dRet (dOp fMod (dVar 3) (dVar 1)))))
  dNext)
  (dSeq (dAsg (dOp fMod (dOp fAdd (dOp fMul (dOp fIx (dVar 0) (dC (.int 2))) (dC (.int 48271))) (dC (.int 11))) (dC (.int 2147483647))) (dGSub (dVar 0) (dC (.int 2)) sLst))
  (dRet (dOp fMod (dOp fDiv (dOp fIx (dVar 0) (dC (.int 2))) (dC (.int 7))) (dVar 1)))))))
def m__law_drawn : DL := dDef 2 4 b__law_drawn
theorem u__law_drawn (a0 : EV) (a1 : EV) (h : EH) : m__law_drawn [a0, a1] h = (b__law_drawn [some a0, some a1, none, none] h).bind kDef := rfl
def b__law_same (rec : DL) : DS :=
  (dSeq (dIfS (dB (fIsi2 .tuple_ .list_ (dVar 1))) (dSeq (dIfS (dOr (dNot (dB (fIsi2 .tuple_ .list_ (dVar 0)))) (dB (dOp fNe (fIsi .list_ (dVar 0)) (fIsi .list_ (dVar 1))))) (dRet (dC (.bl false)))
  dNext)
  (dSeq (dIfS (dB (dOp fNe (dCB fLen (dCons (dVar 0) dNil)) (dCB fLen (dCons (dVar 1) dNil)))) (dRet (dC (.bl false)))
  dNext)
  (dRet (dOp fEq (dLc (dItR1 (dCons (dCB fLen (dCons (dVar 1) dNil)) dNil)) (dName 2) (dNot (dB (dCall rec (dCons (dOp fIx (dVar 0) (dVar 2)) (dCons (dOp fIx (dVar 1) (dVar 2)) dNil))))) (dVar 2) [2]) (dLst dNil)))))
  dNext)
  (dSeq (dIfS (dB (dOp (fIsN false) (dVar 1) (dC .non))) (dRet (dOp (fIsN false) (dVar 0) (dC .non)))
  dNext)
  (dSeq (dIfS (dB (fIsi .str_ (dVar 1))) (dRet (dAndV (fIsi .str_ (dVar 0)) (dOp fEq (dVar 0) (dVar 1))))
  dNext)
  (dSeq (dIfS (dOr (dB (fIsi .bool_ (dVar 1))) (dB (fIsi .bool_ (dVar 0)))) (dRet (dAndV (fIsi .bool_ (dVar 1)) (dAndV (fIsi .bool_ (dVar 0)) (dOp fEq (dVar 0) (dVar 1)))))
  dNext)
  (dRet (dAndV (fIsi .int_ (dVar 0)) (dOp fEq (dVar 0) (dVar 1))))))))
def m__law_same : Nat → DL
  | 0 => fun _ _ => .no
  | n + 1 => dDef 2 3 (b__law_same (m__law_same n))
theorem u__law_same (n : Nat) (a0 : EV) (a1 : EV) (h : EH) : m__law_same (n + 1) [a0, a1] h = (b__law_same (m__law_same n) [some a0, some a1, none] h).bind kDef := rfl
def b__law_ties : DS :=
  (dSeq (dAsg (dLst dNil) (dName 2))
  (dSeq (dFor (dItR1 (dCons (dCall m__law_drawn (dCons (dVar 0) (dCons (dOp fIx (dLst (dCons (dC (.int 3)) (dCons (dOp fAdd (dVar 1) (dC (.int 1))) (dCons (dOp fMul (dC (.int 3)) (dVar 1)) dNil)))) (dCall m__law_drawn (dCons (dVar 0) (dCons (dC (.int 3)) dNil)))) dNil))) dNil)) (dName 3)
  (dSeq (dAsg (dCall m__law_drawn (dCons (dVar 0) (dCons (dVar 1) dNil))) (dName 4))
  (dSeq (dAsg (dOp fMod (dOp fAdd (dOp fAdd (dVar 4) (dC (.int 1))) (dCall m__law_drawn (dCons (dVar 0) (dCons (dOp fSub (dVar 1) (dC (.int 1))) dNil)))) (dVar 1)) (dName 5))
  (dDrop (dBM mApp (dVar 2) (dCons (dTup (dCons (dVar 4) (dCons (dVar 5) dNil))) dNil))))))
  (dSeq (dIfS (dB (dOp fEq (dCall m__law_drawn (dCons (dVar 0) (dCons (dC (.int 3)) dNil))) (dC (.int 0)))) (dAsg (dOp fAdd (dVar 2) (dSl fSl (dLc (dItR1 (dCons (dOp fSub (dVar 1) (dC (.int 1))) dNil)) (dName 6) dYes (dTup (dCons (dVar 6) (dCons (dOp fAdd (dVar 6) (dC (.int 1))) dNil))) [6]) (dPart (some (dCall m__law_drawn (dCons (dVar 0) (dCons (dC (.int 2)) dNil))))) (dPart none))) (dName 2))
  dNext)
  (dRet (dVar 2)))))
def m__law_ties : DL := dDef 2 7 b__law_ties
theorem u__law_ties (a0 : EV) (a1 : EV) (h : EH) : m__law_ties [a0, a1] h = (b__law_ties [some a0, some a1, none, none, none, none, none] h).bind kDef := rfl
def b__law_near : DS :=
  (dRet (dLc (dItR1 (dCons (dVar 0) dNil)) (dName 2) dYes (dLc (dItR1 (dCons (dVar 0) dNil)) (dName 3) (dOr (dB (dOp fIn (dTup (dCons (dVar 2) (dCons (dVar 3) dNil))) (dVar 1))) (dB (dOp fIn (dTup (dCons (dVar 3) (dCons (dVar 2) dNil))) (dVar 1)))) (dVar 3) [3]) [2]))
def m__law_near : DL := dDef 2 4 b__law_near
theorem u__law_near (a0 : EV) (a1 : EV) (h : EH) : m__law_near [a0, a1] h = (b__law_near [some a0, some a1, none, none] h).bind kDef := rfl
def b_is_whole : DS :=
  (dSeq (dIfS (dOr (dB (fIsi .bool_ (dVar 0))) (dNot (dB (fIsi .int_ (dVar 0))))) (dRet (dC (.bl false)))
  dNext)
  (dRet (dChain fLe fLe (dVar 1) (dVar 0) (dVar 2))))
def m_is_whole : DL := dDef 3 3 b_is_whole
theorem u_is_whole (a0 : EV) (a1 : EV) (a2 : EV) (h : EH) : m_is_whole [a0, a1, a2] h = (b_is_whole [some a0, some a1, some a2] h).bind kDef := rfl
def b_is_two : DS :=
  (dSeq (dIfS (dOr (dNot (dB (fIsi .tuple_ (dVar 0)))) (dB (dOp fNe (dCB fLen (dCons (dVar 0) dNil)) (dC (.int 2))))) (dRet (dC (.bl false)))
  dNext)
  (dRet (dAndV (dCall m_is_whole (dCons (dOp fIx (dVar 0) (dC (.int 0))) (dCons (dC (.int 0)) (dCons (dVar 1) dNil)))) (dCall m_is_whole (dCons (dOp fIx (dVar 0) (dC (.int 1))) (dCons (dC (.int 0)) (dCons (dVar 2) dNil)))))))
def m_is_two : DL := dDef 3 3 b_is_two
theorem u_is_two (a0 : EV) (a1 : EV) (a2 : EV) (h : EH) : m_is_two [a0, a1, a2] h = (b_is_two [some a0, some a1, some a2] h).bind kDef := rfl
def b_is_pair : DS :=
  (dRet (dCall m_is_two (dCons (dVar 0) (dCons (dOp fSub (dVar 1) (dC (.int 1))) (dCons (dOp fSub (dVar 1) (dC (.int 1))) dNil)))))
def m_is_pair : DL := dDef 2 2 b_is_pair
theorem u_is_pair (a0 : EV) (a1 : EV) (h : EH) : m_is_pair [a0, a1] h = (b_is_pair [some a0, some a1] h).bind kDef := rfl
def b_check_count : DS :=
  (dIfS (dNot (dB (dCall m_is_whole (dCons (dVar 0) (dCons (dC (.int 2)) (dCons (dC (.int 8)) dNil)))))) dNever
  dNext)
def m_check_count : DL := dDef 1 1 b_check_count
theorem u_check_count (a0 : EV) (h : EH) : m_check_count [a0] h = (b_check_count [some a0] h).bind kDef := rfl
def b_check_house : DS :=
  (dIfS (dNot (dB (dCall m_is_whole (dCons (dVar 0) (dCons (dC (.int 0)) (dCons (dOp fSub (dVar 1) (dC (.int 1))) dNil)))))) dNever
  dNext)
def m_check_house : DL := dDef 2 2 b_check_house
theorem u_check_house (a0 : EV) (a1 : EV) (h : EH) : m_check_house [a0, a1] h = (b_check_house [some a0, some a1] h).bind kDef := rfl
def b__neighbours : DS :=
  (dSeq (dDrop (dCall m_check_count (dCons (dVar 0) dNil)))
  (dSeq (dFor (dItL (dVar 1)) (dName 2)
  (dIfS (dOr (dNot (dB (dCall m_is_pair (dCons (dVar 2) (dCons (dVar 0) dNil))))) (dB (dOp fEq (dOp fIx (dVar 2) (dC (.int 0))) (dOp fIx (dVar 2) (dC (.int 1)))))) dNever
  dNext))
  (dSeq (dAsg (dLc (dItR1 (dCons (dVar 0) dNil)) (dName 6) dYes (dLst dNil) [6]) (dName 3))
  (dSeq (dFor (dItL (dVar 1)) (dGTup 2 (dGCons (dName 4) (dGCons (dName 5) dGNil)))
  (dSeq (dDrop (dBM mApp (dOp fIx (dVar 3) (dVar 4)) (dCons (dVar 5) dNil)))
  (dDrop (dBM mApp (dOp fIx (dVar 3) (dVar 5)) (dCons (dVar 4) dNil)))))
  (dRet (dVar 3))))))
def m__neighbours : DL := dDef 2 7 b__neighbours
theorem u__neighbours (a0 : EV) (a1 : EV) (h : EH) : m__neighbours [a0, a1] h = (b__neighbours [some a0, some a1, none, none, none, none, none] h).bind kDef := rfl
end LW
set_option Elab.async false
set_option linter.all false
set_option maxRecDepth 100000
set_option maxHeartbeats 4000000
namespace TW
open PySem L2 EE
def b_check_houses : DS :=
  (dFor (dItL (dVar 0)) (dName 2)
  (dDrop (dCall LW.m_check_house (dCons (dVar 2) (dCons (dVar 1) dNil)))))
def m_check_houses : DL := dDef 2 3 b_check_houses
theorem u_check_houses (a0 : EV) (a1 : EV) (h : EH) : m_check_houses [a0, a1] h = (b_check_houses [some a0, some a1, none] h).bind kDef := rfl
def b__check_rows : DS :=
  (dFor (dItE (dCons (dVar 0) dNil)) (dGTup 2 (dGCons (dName 2) (dGCons (dName 3) dGNil)))
  (dIfS (dNot (dB (dCall LW.m_is_pair (dCons (dVar 3) (dCons (dVar 1) dNil))))) (dRaiseN 28 "row " " is none" (dVar 2))
  dNext))
def m__check_rows : DL := dDef 2 4 b__check_rows
theorem u__check_rows (a0 : EV) (a1 : EV) (h : EH) : m__check_rows [a0, a1] h = (b__check_rows [some a0, some a1, none, none] h).bind kDef := rfl
def b__all_in : DS :=
  (dRet (dAllIn 1 (dVar 0)))
def m__all_in : DL := dDef 2 3 b__all_in
theorem u__all_in (a0 : EV) (a1 : EV) (h : EH) : m__all_in [a0, a1] h = (b__all_in [some a0, some a1, none] h).bind kDef := rfl
def b_shows : DS :=
  (dSeq (dAsg (dCall LW.m__neighbours (dCons (dVar 0) (dCons (dVar 1) dNil))) (dName 5))
  (dSeq (dDrop (dCall m_check_houses (dCons (dVar 2) (dCons (dVar 0) dNil))))
  (dSeq (dDrop (dCall m_check_houses (dCons (dVar 3) (dCons (dVar 0) dNil))))
  (dSeq (dDrop (dCallX m__check_rows (dCons (dVar 4) (dCons (dVar 0) dNil))))
  (dSeq (dAsg (dDc false (dItL (dVar 2)) (dName 9) dYes (dVar 9) (dC (.bl true)) [9]) (dName 6))
  (dSeq (dFor (dItL (dVar 4)) (dGTup 2 (dGCons (dName 7) (dGCons (dName 8) dGNil)))
  (dSeq (dIfS (dOr (dB (dOp (fDIn true) (dVar 7) (dVar 6))) (dOr (dB (dOp (fDIn false) (dVar 8) (dVar 6))) (dB (dOp fNotIn (dVar 8) (dOp fIx (dVar 5) (dVar 7)))))) (dRet (dC (.bl false)))
  dNext)
  (dAsg (dC (.bl true)) (dGSub (dVar 6) (dVar 8) sDic))))
  (dRet (dCall m__all_in (dCons (dVar 3) (dCons (dVar 6) dNil))))))))))
def m_shows : DL := dDef 5 10 b_shows
theorem u_shows (a0 : EV) (a1 : EV) (a2 : EV) (a3 : EV) (a4 : EV) (h : EH) : m_shows [a0, a1, a2, a3, a4] h = (b_shows [some a0, some a1, some a2, some a3, some a4, none, none, none, none, none] h).bind kDef := rfl
def b__law_does : DS :=
  (dSeq (dAsg (dCB fListOf (dCons (dVar 1) dNil)) (dName 4))
  (dSeq (dFor (dItL (dVar 3)) (dGTup 2 (dGCons (dName 5) (dGCons (dName 6) dGNil)))
  (dSeq (dIfS (dOr (dB (dOp fNotIn (dVar 5) (dVar 4))) (dOr (dB (dOp fIn (dVar 6) (dVar 4))) (dB (dOp fNotIn (dVar 6) (dOp fIx (dVar 0) (dVar 5)))))) (dRet (dC (.bl false)))
  dNext)
  (dDrop (dBM mApp (dVar 4) (dCons (dVar 6) dNil)))))
  (dRet (dOp fEq (dLc (dItL (dVar 2)) (dName 7) (dB (dOp fNotIn (dVar 7) (dVar 4))) (dVar 7) [7]) (dLst dNil)))))
def m__law_does : DL := dDef 4 8 b__law_does
theorem u__law_does (a0 : EV) (a1 : EV) (a2 : EV) (a3 : EV) (h : EH) : m__law_does [a0, a1, a2, a3] h = (b__law_does [some a0, some a1, some a2, some a3, none, none, none, none] h).bind kDef := rfl
end TW
set_option Elab.async false
set_option linter.all false
set_option maxRecDepth 100000
set_option maxHeartbeats 1000000
namespace EE
open PySem L2
def TrX {α : Type} (r : Res α) (Q : α → EH → Prop) (E : Exn → EH → Prop) : Prop := match r with
  | .ok v h => Q v h
  | .er x h => E x h
  | .no => False
section
variable {α β : Type}
@[simp] theorem trx_ok (v : α) (h : EH) (Q : α → EH → Prop) (E : Exn → EH → Prop) : TrX (.ok v h) Q E ↔ Q v h := Iff.rfl
@[simp] theorem trx_er (x : Exn) (h : EH) (Q : α → EH → Prop) (E : Exn → EH → Prop) : TrX (.er x h) Q E ↔ E x h := Iff.rfl
@[simp] theorem trx_no (Q : α → EH → Prop) (E : Exn → EH → Prop) : TrX .no Q E ↔ False := Iff.rfl
theorem trx_bind (r : Res α) (k : α → EH → Res β) (Q : β → EH → Prop) (E : Exn → EH → Prop) : TrX (r.bind k) Q E ↔ TrX r (fun v h => TrX (k v h) Q E) E := by cases r <;> rfl
@[simp] theorem trx_noer (r : Res α) (Q : α → EH → Prop) (E : Exn → EH → Prop) : TrX r.noer Q E ↔ Tri r Q := by cases r <;> rfl
theorem TrX.mono {r : Res α} {Q Q' : α → EH → Prop} {E E' : Exn → EH → Prop} (h : TrX r Q E) (hq : ∀ v h, Q v h → Q' v h) (he : ∀ x h, E x h → E' x h) : TrX r Q' E' := by
  cases r with
  | ok v h' => exact hq v h' h
  | er x h' => exact he x h' h
  | no => exact h
theorem Tri.x {r : Res α} {Q : α → EH → Prop} {E : Exn → EH → Prop} (h : Tri r Q) : TrX r Q E := by
  cases r with
  | ok v h' => exact h
  | er x h' => exact h.elim
  | no => exact h
theorem TrX.tri {r : Res α} {Q : α → EH → Prop} {E : Exn → EH → Prop} (h : TrX r Q E) (he : ∀ x h, ¬ E x h) : Tri r Q := by
  cases r with
  | ok v h' => exact h
  | er x h' => exact he _ _ h
  | no => exact h
theorem trx_word {rs : Nat → List EV → EH → Option (EV × EH)} {d : DE} {es : ES} {h : EH} {Q : EV → EH → Prop} {E : Exn → EH → Prop} (hd : TrX (d es h) Q E) (he : ∀ x h1, E x h1 → ∃ v h2, rs x.c x.fs h1 = some (v, h2) ∧ Q v h2) : Tri (dWord rs d es h) Q := by
  unfold dWord
  cases q : d es h with
  | ok v h' => rw [q] at hd; exact hd
  | no => rw [q] at hd; exact hd
  | er x h' =>
    rw [q] at hd
    obtain ⟨v, h2, e, hq⟩ := he x h' hd
    simp only [e]
    exact hq
theorem trx_for {it : Wlk} {g : DG} {b : DS} {xs : List EV} {es : ES} {h : EH} {Q : Flw → EH → Prop} {E : Exn → EH → Prop} (I : Nat → ES → EH → Prop) (h0 : I 0 es h) (hcur : ∀ i es h, I i es h → it.cur h = some xs)
    (hstep : ∀ (i : Nat) (x : EV) es h (K : Flw → EH → Prop), xs[i]? = some x → I i es h → (∀ es2 h2, I (i + 1) es2 h2 → K (.nx es2) h2) → (∀ es2 h2, I (i + 1) es2 h2 → K (.ct es2) h2) → (∀ es2 h2, Q (.nx es2) h2 → K (.bk es2) h2) → (∀ v h2, Q (.rt v) h2 → K (.rt v) h2) →
      TrX (g (it.tl i x) es h) (fun es1 h1 => TrX (b es1 h1) K E) E)
    (hend : ∀ es h, I xs.length es h → Q (.nx es) h) : TrX (kFor g b es it h) Q E := by
  have key : ∀ (m i : Nat) es h, i + m = xs.length + 1 → i ≤ xs.length → I i es h → TrX (forGo it g b m i es h) Q E := by
    intro m
    induction m with
    | zero =>
      intro i es h hi hl hI
      exact absurd hi (by omega)
    | succ m ih =>
      intro i es h hi hl hI
      unfold forGo
      rw [hcur i es h hI]
      simp only
      cases hx : xs[i]? with
      | none =>
        have hge := List.getElem?_eq_none_iff.mp hx
        have : i = xs.length := by omega
        subst this
        exact hend es h hI
      | some x =>
        simp only
        have hlt := (List.getElem?_eq_some_iff.mp hx).1
        have hs := hstep i x es h (fun f h2 => match f with
          | .nx es2 => I (i + 1) es2 h2
          | .ct es2 => I (i + 1) es2 h2
          | .bk es2 => Q (.nx es2) h2
          | .rt v => Q (.rt v) h2) hx hI (fun _ _ q => q) (fun _ _ q => q) (fun _ _ q => q) (fun _ _ q => q)
        rw [trx_bind]
        refine hs.mono (fun es1 h1 hs1 => ?_) fun _ _ q => q
        rw [trx_bind]
        refine hs1.mono (fun f h2 hf => ?_) fun _ _ q => q
        cases f with
        | nx es2 => exact ih (i + 1) es2 h2 (by omega) (by omega) hf
        | ct es2 => exact ih (i + 1) es2 h2 (by omega) (by omega) hf
        | bk es2 => exact hf
        | rt v => exact hf
  unfold kFor
  rw [hcur 0 es h h0]
  exact key _ 0 es h (by omega) (by omega) h0
end
theorem raise28 (k : Nat) (hk : k < 400) (h : EH) : kRaiseN 28 "row " " is none" (.int (k : Int)) h = .er ⟨28, [.int (k : Int)]⟩ h := by
  have key : ∀ k < 400, ((((k : Nat) : Int).natAbs.log2 < 1920 ∧ ((Str.empty ++ ("row " : Str)) ++ toString ((k : Nat) : Int)).length + (" is none" : Str).length ≤ 100000)) := by decide +kernel
  unfold kRaiseN
  simp only
  rw [if_pos (key k hk)]
end EE
set_option Elab.async false
set_option linter.all false
set_option maxRecDepth 100000
set_option maxHeartbeats 4000000
namespace LW
open PySem L2 EE
def StO (o : EO) : Prop := ∃ b x l : Int, o = .lst [.ref 0, .int b, .int x, .int l] ∧ 0 ≤ b ∧ 0 ≤ x ∧ x < 2147483647
def St (ns : List Int) (h : EH) (s : Nat) : Prop := ∃ o, h[s]? = some o ∧ StO o ∧ h[0]? = some (.ro (ns.map EV.int)) ∧ s ≠ 0
theorem St.set {ns : List Int} {h : EH} {s : Nat} {o : EO} (hs : St ns h s) (ho : StO o) : St ns (h.set s o) s := by
  obtain ⟨o', h1, h2, h3, h4⟩ := hs
  exact ⟨o, List.getElem?_set_self (List.getElem?_eq_some_iff.mp h1).1, ho, by rw [List.getElem?_set_ne h4]; exact h3, h4⟩
theorem St.lt {ns : List Int} {h : EH} {s : Nat} (hs : St ns h s) : s < h.length := by
  obtain ⟨o', h1, _⟩ := hs
  exact (List.getElem?_eq_some_iff.mp h1).1
theorem St.fr {ns : List Int} {h h' : EH} {s : Nat} (hs : St ns h s) (f : Fr [] h h') : St ns h' s := by
  obtain ⟨o', h1, h2, h3, h4⟩ := hs
  exact ⟨o', f.at h1 (by simp), h2, f.at h3 (by simp), h4⟩
theorem drawn {ns : List Int} {h : EH} {s : Nat} {m : Int} {Q : EV → EH → Prop} (hs : St ns h s) (h0 : 0 < m) (h1 : m ≤ 1000000000000000000) (q : ∀ (r : Int) o, 0 ≤ r → r < m → StO o → Q (.int r) (h.set s o)) : Tri (m__law_drawn [.ref s, .int m] h) Q := by
  obtain ⟨o, g1, ⟨b, x, l, rfl, hb, hx, hx2⟩, g3, g4⟩ := hs
  have hsl := (List.getElem?_eq_some_iff.mp g1).1
  have e : mutAt h s = some [.ref 0, .int b, .int x, .int l] := by unfold mutAt; rw [g1]
  have e' := lst_mut e
  have i3 : fIx (.ref s) (.int 3) h = .ok (.int l) h := f_ixL 3 e' 3 rfl rfl
  have i1 : fIx (.ref s) (.int 1) h = .ok (.int b) h := f_ixL 1 e' 1 rfl rfl
  have m64 : m < 18446744073709551616 := by omega
  rw [u__law_drawn]
  by_cases hl : 0 < l
  · simp [b__law_drawn, i3, hl, f_mod _ _ _ h0, f_div _ _ _ h0 m64, s_lst 3 e 3 rfl (by simp)]
    exact q _ _ (Int.emod_nonneg _ (by omega)) (Int.emod_lt_of_pos _ h0) ⟨b, x, l / m, rfl, hb, hx, hx2⟩
  · simp [b__law_drawn, i3, hl, i1, s_lst 1 e 1 rfl (by simp)]
    generalize eh1 : h.set s (.lst [.ref 0, .int (b + 1), .int x, .int l]) = h1
    have l1 : s < h1.length := by rw [← eh1, List.length_set]; exact hsl
    have e1 : mutAt h1 s = some [.ref 0, .int (b + 1), .int x, .int l] := by rw [← eh1]; exact mutAt_set hsl
    have e1' := lst_mut e1
    have es : lstAt h1 0 = some (ns.map EV.int) := by
      rw [← eh1, lstAt_ne g4]
      unfold lstAt
      rw [g3]
    have j1 : fIx (.ref s) (.int 1) h1 = .ok (.int (b + 1)) h1 := f_ixL 1 e1' 1 rfl rfl
    have j0 : fIx (.ref s) (.int 0) h1 = .ok (.ref 0) h1 := f_ixL 0 e1' 0 rfl rfl
    have j2 : fIx (.ref s) (.int 2) h1 = .ok (.int x) h1 := f_ixL 2 e1' 2 rfl rfl
    have hset : ∀ o, h1.set s o = h.set s o := fun o => by rw [← eh1, List.set_set]
    by_cases hn : b + 1 ≤ (ns.length : Int)
    · obtain ⟨k, rfl⟩ := Int.eq_ofNat_of_zero_le hb
      have hk : k < ns.length := by omega
      have jc : fIx (.ref 0) (.int (k : Int)) h1 = .ok (.int ns[k]) h1 := f_ixL _ es k rfl (by rw [List.getElem?_map, List.getElem?_eq_getElem hk]; rfl)
      by_cases hc : 1000000000000000000 ≤ ns[k]
      · simp [j0, j1, f_len es, hn, jc, hc, f_div _ _ _ h0 m64, s_lst 3 e1 3 rfl (by simp), f_mod _ _ _ h0, hset]
        exact q _ _ (Int.emod_nonneg _ (by omega)) (Int.emod_lt_of_pos _ h0) ⟨_, _, _, rfl, by omega, hx, hx2⟩
      · simp [j0, j1, f_len es, hn, jc, hc, f_div _ _ _ h0 m64, s_lst 3 e1 3 rfl (by simp), f_mod _ _ _ h0, hset]
        exact q _ _ (Int.emod_nonneg _ (by omega)) (Int.emod_lt_of_pos _ h0) ⟨_, _, _, rfl, by omega, hx, hx2⟩
    · simp [j0, j1, j2, f_len es, hn, f_mul _ _ _ (show -18446744073709551616 < (48271 : Int) by decide) (by decide), f_mod _ _ _ (show (0 : Int) < 2147483647 by decide), s_lst 2 e1 2 rfl (by simp)]
      have hx0 : 0 ≤ (x * 48271 + 11) % 2147483647 := Int.emod_nonneg _ (by decide)
      have hx1 : (x * 48271 + 11) % 2147483647 < 2147483647 := Int.emod_lt_of_pos _ (by decide)
      generalize (x * 48271 + 11) % 2147483647 = x' at hx0 hx1
      rw [hset]
      have k2 : fIx (.ref s) (.int 2) (h.set s (.lst [.ref 0, .int (b + 1), .int x', .int l])) = .ok (.int x') (h.set s (.lst [.ref 0, .int (b + 1), .int x', .int l])) := f_ixL 2 (lstAt_set hsl) 2 rfl rfl
      simp [k2, f_div _ _ _ (show (0 : Int) < 7 by decide) (by decide), f_mod _ _ _ h0]
      exact q _ _ (Int.emod_nonneg _ (by omega)) (Int.emod_lt_of_pos _ h0) ⟨_, _, _, rfl, by omega, hx0, hx1⟩
theorem drawnF {ns : List Int} {h : EH} {s : Nat} {m : Int} {Q : EV → EH → Prop} (hs : St ns h s) (h0 : 0 < m) (h1 : m ≤ 1000000000000000000) (q : ∀ (r : Int) h', 0 ≤ r → r < m → St ns h' s → Fr [s] h h' → h'.length = h.length → Q (.int r) h') : Tri (m__law_drawn [.ref s, .int m] h) Q :=
  drawn hs h0 h1 fun r o a b ho => q r _ a b (hs.set ho) ((Fr.refl _ _).set (.inl (by simp))) (List.length_set ..)
theorem start {ns : List Int} {h : EH} {Q : EV → EH → Prop} (hs : h[0]? = some (.ro (ns.map EV.int))) (q : ∀ h', St ns h' h.length → Fr [] h h' → Q (.ref h.length) h') : Tri (m__law_start [.ref 0] h) Q := by
  have es : lstAt h 0 = some (ns.map EV.int) := by
    unfold lstAt
    rw [hs]
  rw [u__law_start]
  simp [b__law_start, kItL_ref es, tri_bind]
  refine tri_for (xs := ns.map EV.int) (fun i es' h' => h' = h ∧ ∃ x c, es' = [some (.ref 0), some (.int x), c] ∧ 0 ≤ x ∧ x < 2147483647) ⟨rfl, 1, none, rfl, by decide, by decide⟩ (fun i es' h' ⟨e, _⟩ => by subst e; exact es) ?_ ?_
  · rintro i v es' h' K hv ⟨rfl, x, c, rfl, hx, hx2⟩ hK _ _ _
    rw [List.getElem?_map] at hv
    obtain ⟨n, hn, rfl⟩ := Option.map_eq_some_iff.mp hv
    simp [f_mul _ _ _ (show -18446744073709551616 < (48271 : Int) by decide) (by decide), f_mod _ _ _ (show (0 : Int) < 2147483647 by decide)]
    exact hK _ _ ⟨rfl, _, _, rfl, Int.emod_nonneg _ (by decide), Int.emod_lt_of_pos _ (by decide)⟩
  · rintro es' h' ⟨rfl, x, c, rfl, hx, hx2⟩
    simp
    refine q _ ⟨_, by simp, ⟨0, x, 0, rfl, by decide, hx, hx2⟩, ?_, ?_⟩ (Fr.app _ _ _)
    · rw [List.getElem?_append_left (List.getElem?_eq_some_iff.mp hs).1]
      exact hs
    · have := (List.getElem?_eq_some_iff.mp hs).1
      omega
end LW
set_option Elab.async false
set_option linter.all false
set_option maxRecDepth 100000
set_option maxHeartbeats 4000000
namespace LW
open PySem L2 EE
mutual
def Dt (h : EH) : PyData → EV → Prop
  | .none, x => x = .non
  | .bool b, x => x = .bl b
  | .int i, x => x = .int i
  | .str s, x => x = .str s
  | .list ds, x => ∃ n xs, x = .ref n ∧ lstAt h n = some xs ∧ Dts h ds xs
  | .tuple ds, x => ∃ xs, x = .tup xs ∧ Dts h ds xs
  | .dict _, _ => False
def Dts (h : EH) : List PyData → List EV → Prop
  | [], xs => xs = []
  | d :: ds, xs => ∃ x r, xs = x :: r ∧ Dt h d x ∧ Dts h ds r
end
mutual
theorem Dt.fr {h h' : EH} (f : Fr [] h h') : ∀ (d : PyData) (x : EV), Dt h d x → Dt h' d x
  | .none, x, e => by simp only [Dt] at e ⊢; exact e
  | .bool b, x, e => by simp only [Dt] at e ⊢; exact e
  | .int b, x, e => by simp only [Dt] at e ⊢; exact e
  | .str b, x, e => by simp only [Dt] at e ⊢; exact e
  | .list ds, x, e => by
    simp only [Dt] at e ⊢
    obtain ⟨n, xs, e1, e2, e3⟩ := e
    exact ⟨n, xs, e1, f.lst e2 (by simp), Dts.fr f ds xs e3⟩
  | .tuple ds, x, e => by
    simp only [Dt] at e ⊢
    obtain ⟨xs, e1, e3⟩ := e
    exact ⟨xs, e1, Dts.fr f ds xs e3⟩
  | .dict _, x, e => by simp only [Dt] at e
theorem Dts.fr {h h' : EH} (f : Fr [] h h') : ∀ (d : List PyData) (x : List EV), Dts h d x → Dts h' d x
  | [], x, e => by simp only [Dts] at e ⊢; exact e
  | d :: ds, x, e => by
    simp only [Dts] at e ⊢
    obtain ⟨y, r, e1, e2, e3⟩ := e
    exact ⟨y, r, e1, Dt.fr f d y e2, Dts.fr f ds r e3⟩
end
theorem Dts.length {h : EH} : ∀ {ds : List PyData} {xs : List EV}, Dts h ds xs → xs.length = ds.length
  | [], xs, e => by simp only [Dts] at e; subst e; rfl
  | d :: ds, xs, e => by
    simp only [Dts] at e
    obtain ⟨x, r, rfl, _, e3⟩ := e
    simp [Dts.length e3]
theorem Dts.get {h : EH} : ∀ {ds : List PyData} {xs : List EV} {i : Nat} {d : PyData}, Dts h ds xs → ds[i]? = some d → ∃ x, xs[i]? = some x ∧ Dt h d x
  | [], xs, i, d, e, he => by simp at he
  | d :: ds, xs, 0, d', e, he => by
    simp only [Dts] at e
    obtain ⟨x, r, rfl, e2, e3⟩ := e
    simp only [List.getElem?_cons_zero, Option.some.injEq] at he
    subst he
    exact ⟨x, rfl, e2⟩
  | d :: ds, xs, i + 1, d', e, he => by
    simp only [Dts] at e
    obtain ⟨x, r, rfl, e2, e3⟩ := e
    simp only [List.getElem?_cons_succ] at he ⊢
    exact Dts.get e3 he
theorem depth_get : ∀ {ds : List PyData} {i : Nat} {d : PyData}, ds[i]? = some d → d.depth ≤ PyData.depthAll ds
  | [], i, d, he => by simp at he
  | d :: ds, 0, d', he => by
    simp only [List.getElem?_cons_zero, Option.some.injEq] at he
    subst he
    simp only [PyData.depthAll]
    omega
  | d :: ds, i + 1, d', he => by
    simp only [List.getElem?_cons_succ] at he
    have := depth_get he
    simp only [PyData.depthAll]
    omega
theorem f_eqNil {h : EH} {a b : Nat} (ha : lstAt h a = some []) (hb : lstAt h b = some []) : fEq (.ref a) (.ref b) h = .ok (.bl true) h := by
  show (Res.no).orElse _ = _
  simp only [orE_no]
  have key : ∀ k, lstAt h k = some [] → dat h (.ref k) = some (.list []) := fun k hk => by
    unfold dat
    simp only [dat0, datF, hk, dat0s, Option.map_some]
  simp only [fEqD, key a ha, key b hb]
  rfl
theorem rng_at {n i : Nat} {x : EV} (h : (rng 0 n)[i]? = some x) : i < n ∧ x = .int (i : Int) := by
  obtain ⟨h1, h2⟩ := rng_get h
  exact ⟨h1, by rw [h2]; congr 1; omega⟩
mutual
def sm : PyData → Bool
  | .none => true
  | .bool _ => true
  | .int _ => true
  | .str _ => true
  | .list ds => decide (ds.length < 40000) && sms ds
  | .tuple ds => decide (ds.length < 40000) && sms ds
  | .dict _ => false
def sms : List PyData → Bool
  | [] => true
  | d :: ds => sm d && sms ds
end
theorem sm_get : ∀ {ds : List PyData} {i : Nat} {d : PyData}, sms ds = true → ds[i]? = some d → sm d = true
  | [], i, d, _, he => by simp at he
  | d :: ds, 0, d', hs, he => by
    simp only [List.getElem?_cons_zero, Option.some.injEq] at he
    subst he
    simp only [sms, Bool.and_eq_true] at hs
    exact hs.1
  | d :: ds, i + 1, d', hs, he => by
    simp only [List.getElem?_cons_succ] at he
    simp only [sms, Bool.and_eq_true] at hs
    exact sm_get hs.2 he
theorem same_comp {rec : DL} {h : EH} {ds : List PyData} {X Y : EV} {xs ys : List EV} (hx : Dts h ds xs) (hy : Dts h ds ys) (hl : ds.length < 40000)
    (ix : ∀ h', Fr [] h h' → ∀ (i : Nat) (x : EV), xs[i]? = some x → fIx X (.int (i : Int)) h' = .ok x h') (iy : ∀ h', Fr [] h h' → ∀ (i : Nat) (x : EV), ys[i]? = some x → fIx Y (.int (i : Int)) h' = .ok x h')
    (ih : ∀ h', Fr [] h h' → ∀ (i : Nat) (d : PyData) (x y : EV), ds[i]? = some d → Dt h' d x → Dt h' d y → Tri (rec [x, y] h') fun v h2 => v = .bl true ∧ Fr [] h' h2)
    {Q : EV → EH → Prop} (q : ∀ k h', lstAt h' k = some [] → Fr [] h h' → Q (.ref k) h') :
    Tri (kLc (dName 2) (dNot (dB (dCall rec (dCons (dOp fIx (dVar 0) (dVar 2)) (dCons (dOp fIx (dVar 1) (dVar 2)) dNil))))) (dVar 2) [2] [some X, some Y, none] ⟨none, rng 0 (ds.length : Int).toNat, fun _ x => x⟩ h) Q := by
  refine tri_lcP (xs := rng 0 (ds.length : Int).toNat) (fun _ => false) (fun _ => .non) (by rw [rng_len]; omega) (fun h' _ => rfl) (fun i x h' K hxi hf hK => ?_) (fun _ _ _ _ _ _ hp _ => by cases hp) fun h' hf => ?_
  · obtain ⟨h1, rfl⟩ := rng_at hxi
    have hi : i < ds.length := by omega
    obtain ⟨x, e1, e2⟩ := hx.get (List.getElem?_eq_getElem hi)
    obtain ⟨y, e3, e4⟩ := hy.get (List.getElem?_eq_getElem hi)
    simp [wip, ix h' hf i x e1, iy h' hf i y e3, tri_bind]
    refine (ih h' hf i _ x y (List.getElem?_eq_getElem hi) (Dt.fr hf _ _ e2) (Dt.fr hf _ _ e4)).mono ?_
    rintro v h2 ⟨rfl, f2⟩
    exact hK _ f2
  · refine q _ _ ?_ (hf.trans (Fr.app _ _ _))
    rw [gvn_false]
    simp
theorem same : ∀ (n : Nat) (d : PyData) (x y : EV) (h : EH), Dt h d x → Dt h d y → d.depth < n → sm d = true → Tri (m__law_same n [x, y] h) fun v h' => v = .bl true ∧ Fr [] h h'
  | 0, d, x, y, h, _, _, hd, _ => by omega
  | n + 1, .none, x, y, h, hx, hy, hd, _ => by
    simp only [Dt] at hx hy
    subst hx hy
    rw [u__law_same]
    simp [b__law_same, Ty.isa, Fr.refl]
  | n + 1, .bool b, x, y, h, hx, hy, hd, _ => by
    simp only [Dt] at hx hy
    subst hx hy
    rw [u__law_same]
    simp [b__law_same, Ty.isa, Fr.refl]
  | n + 1, .int b, x, y, h, hx, hy, hd, _ => by
    simp only [Dt] at hx hy
    subst hx hy
    rw [u__law_same]
    simp [b__law_same, Ty.isa, Fr.refl]
  | n + 1, .str b, x, y, h, hx, hy, hd, _ => by
    simp only [Dt] at hx hy
    subst hx hy
    rw [u__law_same]
    simp [b__law_same, Ty.isa, Fr.refl]
  | n + 1, .dict _, x, y, h, hx, hy, hd, _ => by simp only [Dt] at hx
  | n + 1, .tuple ds, x, y, h, hx, hy, hd, hs => by
    simp only [Dt] at hx hy
    obtain ⟨xs, rfl, hx⟩ := hx
    obtain ⟨ys, rfl, hy⟩ := hy
    simp only [sm, Bool.and_eq_true, decide_eq_true_eq] at hs
    rw [u__law_same]
    simp [b__law_same, Ty.isa, Fr.refl, hx.length, hy.length, ap_kItR1 h (ds.length : Int) (by omega) (by omega), tri_bind]
    refine same_comp hx hy hs.1 (fun h' _ i x e => f_ixT _ i rfl e) (fun h' _ i x e => f_ixT _ i rfl e) (fun h' hf i d x y hd2 h1 h2 => same n d x y h' h1 h2 (by have := depth_get hd2; simp only [PyData.depth] at hd; omega) (sm_get hs.2 hd2)) fun k h' hk hf => ?_
    simp [f_eqNil (lstAt_app hk) lstAt_new, hf.trans (Fr.app _ _ _)]
  | n + 1, .list ds, x, y, h, hx, hy, hd, hs => by
    simp only [Dt] at hx hy
    obtain ⟨a, xs, rfl, hxs, hx⟩ := hx
    obtain ⟨b, ys, rfl, hys, hy⟩ := hy
    simp only [sm, Bool.and_eq_true, decide_eq_true_eq] at hs
    rw [u__law_same]
    simp [b__law_same, Ty.isa, Fr.refl, hx.length, hy.length, kIsi2_lst _ _ hxs, kIsi2_lst _ _ hys, kIsi_lst _ hxs, kIsi_lst _ hys, f_len hxs, f_len hys, ap_kItR1 h (ds.length : Int) (by omega) (by omega), tri_bind]
    refine same_comp hx hy hs.1 (fun h' f i x e => f_ixL _ (f.lst hxs (by simp)) i rfl e) (fun h' f i x e => f_ixL _ (f.lst hys (by simp)) i rfl e) (fun h' hf i d x y hd2 h1 h2 => same n d x y h' h1 h2 (by have := depth_get hd2; simp only [PyData.depth] at hd; omega) (sm_get hs.2 hd2)) fun k h' hk hf => ?_
    simp [f_eqNil (lstAt_app hk) lstAt_new, hf.trans (Fr.app _ _ _)]
end LW
set_option Elab.async false
set_option linter.all false
set_option maxRecDepth 100000
set_option maxHeartbeats 4000000
namespace LW
open PySem L2 EE
abbrev prE (p : Nat × Nat) : EV := .tup [.int (p.1 : Int), .int (p.2 : Int)]
abbrev prD (p : Nat × Nat) : PyData := .tuple [.int (p.1 : Int), .int (p.2 : Int)]
def prs (ps : List (Nat × Nat)) : List EV := ps.map prE
theorem dat_pr {h : EH} (a b : Int) : dat h (.tup [.int a, .int b]) = some (.tuple [.int a, .int b]) := by
  simp [dat, dat0, dat0s]
theorem dat0s_prs (f : Nat → Option (List PyData)) : ∀ ps : List (Nat × Nat), dat0s f (prs ps) = some (ps.map prD)
  | [] => by simp [prs, dat0s]
  | p :: ps => by
    have := dat0s_prs f ps
    simp only [prs] at this ⊢
    simp [dat0s, dat0, this]
theorem datF_prs {h : EH} {t : Nat} {ps : List (Nat × Nat)} (e : lstAt h t = some (prs ps)) (m : Nat) : datF h (m + 1) t = some (ps.map prD) := by
  simp only [datF, e]
  exact dat0s_prs _ ps
theorem eqv_pr (a b c d : Int) : PyData.eqv (.tuple [.int a, .int b]) (.tuple [.int c, .int d]) = (decide (a = c) && decide (b = d)) := by
  simp only [PyData.eqv, PyData.eqvAll, Bool.and_true]
  rw [Bool.beq_eq_decide_eq, Bool.beq_eq_decide_eq]
theorem canLay_prs : ∀ ps : List (Nat × Nat), PyData.canLayAll0 (ps.map prD) = true
  | [] => by simp [PyData.canLayAll0]
  | p :: ps => by simp [PyData.canLayAll0, PyData.canLay0, canLay_prs ps]
theorem depth_prs : ∀ ps : List (Nat × Nat), PyData.depthAll (ps.map prD) ≤ 1
  | [] => by simp [PyData.depthAll]
  | p :: ps => by
    have := depth_prs ps
    simp only [List.map_cons, PyData.depthAll, PyData.depth]
    omega
theorem shaped_prs (ps : List (Nat × Nat)) : SeqAt.shaped (.list (ps.map prD)) = true := by
  unfold SeqAt.shaped
  have := depth_prs ps
  simp only [PyData.canLay0, canLay_prs, PyData.depth, Bool.true_and, decide_eq_true_eq]
  exact decide_eq_true (Nat.le_trans (Nat.succ_le_succ this) (show 2 ≤ 64 by decide))
theorem shaped_pr (a b : Int) : SeqAt.shaped (.tuple [.int a, .int b]) = true := by
  simp [SeqAt.shaped, PyData.canLay0, PyData.canLayAll0, PyData.depth, PyData.depthAll]
theorem f_inPr {h : EH} {t : Nat} {ps : List (Nat × Nat)} (e : lstAt h t = some (prs ps)) (a b : Nat) : fIn (.tup [.int (a : Int), .int (b : Int)]) (.ref t) h = .ok (.bl (decide ((a, b) ∈ ps))) h := by
  show fInL false _ _ _ = _
  simp only [fInL, dat_pr, datF_prs e 3, shaped_pr, shaped_prs, Bool.and_self, if_true]
  congr 2
  rw [Bool.eq_iff_iff]
  simp only [Bool.and_true, Bool.false_bne, List.any_map, List.any_eq_true, Function.comp_apply, decide_eq_true_eq]
  constructor
  · rintro ⟨⟨c, d⟩, hm, he⟩
    rw [eqv_pr] at he
    simp only [Bool.and_eq_true, decide_eq_true_eq] at he
    have e1 : c = a := by omega
    have e2 : d = b := by omega
    rw [← e1, ← e2]
    exact hm
  · intro hm
    exact ⟨(a, b), hm, by rw [eqv_pr]; simp⟩
def TiesOk (n : Nat) (ps : List (Nat × Nat)) : Prop := ∀ p ∈ ps, p.1 < n ∧ p.2 < n ∧ p.1 ≠ p.2
theorem other_ne {n a r : Int} (h2 : 2 ≤ n) (h8 : n ≤ 8) (ha : 0 ≤ a) (ha2 : a < n) (hr : 0 ≤ r) (hr2 : r < n - 1) : 0 ≤ (a + 1 + r) % n ∧ (a + 1 + r) % n < n ∧ (a + 1 + r) % n ≠ a := by
  have : n = 2 ∨ n = 3 ∨ n = 4 ∨ n = 5 ∨ n = 6 ∨ n = 7 ∨ n = 8 := by omega
  rcases this with rfl | rfl | rfl | rfl | rfl | rfl | rfl <;> omega
theorem prs_app (ps qs : List (Nat × Nat)) : prs ps ++ prs qs = prs (ps ++ qs) := by simp [prs]
theorem cut_drop (ps : List EV) (k : Nat) : cutE ps (some (k : Int)) none = ps.drop k := by
  unfold cutE
  rw [show HT.sIx ps.length 0 (some (k : Int)) = min k ps.length from HT.sIx_nat _ _ _, show HT.sIx ps.length ps.length none = ps.length from rfl]
  by_cases hk : k ≤ ps.length
  · rw [Nat.min_eq_left hk]
    apply List.take_of_length_le
    rw [List.length_drop]
    exact Nat.le_refl _
  · rw [Nat.min_eq_right (by omega), List.drop_of_length_le (Nat.le_refl _), List.drop_of_length_le (by omega)]
    simp
theorem ties {ns : List Int} {h : EH} {s n : Nat} {Q : EV → EH → Prop} (hs : St ns h s) (h2 : 2 ≤ n) (h8 : n ≤ 8) (q : ∀ t ps h', TiesOk n ps → ps.length ≤ 40 → mutAt h' t = some (prs ps) → h.length ≤ t → St ns h' s → Fr [s] h h' → Q (.ref t) h') : Tri (m__law_ties [.ref s, .int (n : Int)] h) Q := by
  rw [u__law_ties]
  simp [b__law_ties, tri_bind, f_mulL _ 3 (n : Int) (by decide) (by decide)]
  have hs1 : St ns (h ++ [.lst []] ++ [.lst [.int 3, .int (n + 1), .int (3 * n)]]) s := (hs.fr (Fr.app _ _ _)).fr (Fr.app _ _ _)
  have f1 : Fr [s] h (h ++ [.lst []] ++ [.lst [.int 3, .int (n + 1), .int (3 * n)]]) := (Fr.app _ _ _).trans (Fr.app _ _ _)
  have hc : h.length ≠ s := by have := hs.lt; omega
  have e0 : mutAt (h ++ [.lst []] ++ [.lst [.int 3, .int (n + 1), .int (3 * n)]]) h.length = some [] := mutAt_app mutAt_new
  have e1 : lstAt (h ++ [.lst []] ++ [.lst [.int 3, .int (n + 1), .int (3 * n)]]) (h ++ [EO.lst []]).length = some [.int 3, .int (n + 1), .int (3 * n)] := lstAt_new
  simp only [List.append_assoc, List.cons_append, List.nil_append, List.length_append, List.length_singleton] at hs1 f1 e0 e1
  refine drawnF hs1 (by decide) (by decide) fun r1 ha r1a r1b hsa fa la => ?_
  have e0a := fa.mut e0 (by simp [hc])
  have e1a := fa.lst e1 (by simp; have := hs.lt; omega)
  have f1a := f1.trans fa
  have : ∃ m : Int, fIx (.ref (h.length + 1)) (.int r1) ha = .ok (.int m) ha ∧ 0 < m ∧ m ≤ 24 := by
    have : r1 = 0 ∨ r1 = 1 ∨ r1 = 2 := by omega
    rcases this with rfl | rfl | rfl
    · exact ⟨3, f_ixL _ e1a 0 rfl rfl, by omega, by omega⟩
    · exact ⟨n + 1, f_ixL _ e1a 1 rfl rfl, by omega, by omega⟩
    · exact ⟨3 * n, f_ixL _ e1a 2 rfl rfl, by omega, by omega⟩
  obtain ⟨m, em, hm, hm2⟩ := this
  simp only [em, tri_ok]
  refine drawnF hsa hm (by omega) fun r2 hb r2a r2b hsb fb lb => ?_
  have e0b := fb.mut e0a (by simp [hc])
  have f1b := f1a.trans fb
  simp only [ap_kItR1 hb r2 (by omega) (by omega), tri_ok]
  refine tri_for (xs := rng 0 r2.toNat) (fun i es h' => ∃ ps a b c, es = [some (.ref s), some (.int n), some (.ref h.length), a, b, c, none] ∧ TiesOk n ps ∧ ps.length = i ∧ mutAt h' h.length = some (prs ps) ∧ St ns h' s ∧ Fr [s] h h')
    ⟨[], none, none, none, rfl, fun _ hp => by simp at hp, rfl, e0b, hsb, f1b⟩ (fun _ _ _ _ => rfl) ?_ ?_
  · rintro i x es h' K hx ⟨ps, a, b, c, rfl, hp, hpl, hmu, hst, hf⟩ hK _ _ _
    obtain ⟨hi, rfl⟩ := rng_at hx
    simp [tri_bind]
    refine drawnF hst (by omega) (by omega) fun r3 hc3 r3a r3b hsc fc lc => ?_
    have hmu3 := fc.mut hmu (by simp [hc])
    simp
    refine drawnF hsc (by omega) (by omega) fun r4 hc4 r4a r4b hsd fd ld => ?_
    have hmu4 := fd.mut hmu3 (by simp [hc])
    obtain ⟨o1, o2, o3⟩ := other_ne (n := (n : Int)) (by omega) (by omega) r3a r3b r4a r4b
    simp [f_mod _ _ _ (show (0 : Int) < n by omega), kBM_ref _ _ _ (lst_mut hmu4), m_append hmu4 (by simp [prs]; omega)]
    obtain ⟨k1, rfl⟩ := Int.eq_ofNat_of_zero_le r3a
    obtain ⟨k2, hk2⟩ := Int.eq_ofNat_of_zero_le o1
    rw [hk2] at o2 o3 ⊢
    have hlt := mutAt_lt hmu4
    refine hK _ _ ⟨ps ++ [(k1, k2)], _, _, _, rfl, ?_, by simp [hpl], ?_, ?_, ((hf.trans fc).trans fd).set (.inr (Nat.le_refl _))⟩
    · intro p hpm
      rcases List.mem_append.mp hpm with hpm | hpm
      · exact hp p hpm
      · rw [List.mem_singleton.mp hpm]
        exact ⟨by show k1 < n; omega, by show k2 < n; omega, by show k1 ≠ k2; omega⟩
    · rw [mutAt_set hlt, ← prs_app]
      rfl
    · obtain ⟨o, w1, w2, w3, w4⟩ := hsd
      refine ⟨o, by rw [List.getElem?_set_ne hc]; exact w1, w2, ?_, w4⟩
      rw [List.getElem?_set_ne]
      · exact w3
      · have := hs.lt
        omega
  · rintro es h' ⟨ps, a, b, c, rfl, hp, hpl, hmu, hst, hf⟩
    rw [rng_len] at hpl
    simp [tri_bind]
    refine drawnF hst (by decide) (by decide) fun r5 hd r5a r5b hse fe le => ?_
    have hmu5 := fe.mut hmu (by simp [hc])
    have f5 := hf.trans fe
    by_cases h5 : r5 = 0
    · simp [h5, ap_kItR1 hd ((n : Int) - 1) (by omega) (by omega), tri_bind]
      refine tri_lcP (xs := rng 0 (n - 1)) (fun _ => true) (fun i => prE (i, i + 1)) (by rw [rng_len]; omega) (fun _ _ => rfl) (fun i x h' K hx hf hK => ?_) (fun i x h' K hx hf _ hK => ?_) fun h6 f6 => ?_
      · simp
        exact hK _ (Fr.refl _ _)
      · obtain ⟨hi, rfl⟩ := rng_at hx
        simp [wip]
        exact hK _ (Fr.refl _ _)
      · rw [gvn_true, rng_len]
        have hst6 := (hse.fr f6).fr (Fr.app _ _ [EO.lst ((List.range (n - 1)).map fun i => prE (i, i + 1))])
        have hmu6 := (f6.trans (Fr.app _ _ [EO.lst ((List.range (n - 1)).map fun i => prE (i, i + 1))])).mut hmu5 (by simp)
        have hnew : lstAt (h6 ++ [EO.lst ((List.range (n - 1)).map fun i => prE (i, i + 1))]) h6.length = some ((List.range (n - 1)).map fun i => prE (i, i + 1)) := lstAt_new
        have f7 := f5.trans ((f6.trans (Fr.app _ _ [EO.lst ((List.range (n - 1)).map fun i => prE (i, i + 1))])).weak (by simp))
        generalize h6 ++ [EO.lst ((List.range (n - 1)).map fun i => prE (i, i + 1))] = h7 at *
        refine drawnF hst6 (by decide) (by decide) fun r8 h8' r8a r8b hs8 f8 l8 => ?_
        have hmu8 := f8.mut hmu6 (by simp [hc])
        have hne6 : h6.length ≠ s := by
          have := hs.lt
          have := f6.1
          have := fe.1
          have := hf.1
          omega
        have hnew8 := f8.lst hnew (by simp [hne6])
        obtain ⟨k, rfl⟩ := Int.eq_ofNat_of_zero_le r8a
        have ep : ((List.range (n - 1)).map fun i => prE (i, i + 1)) = prs ((List.range (n - 1)).map fun i => (i, i + 1)) := by
          unfold prs
          rw [List.map_map]
          rfl
        rw [ep] at hnew8
        simp [f_slice hnew8, cut_drop]
        have ed : (prs ((List.range (n - 1)).map fun i => (i, i + 1))).drop k = prs (((List.range (n - 1)).map fun i => (i, i + 1)).drop k) := by
          unfold prs
          rw [List.map_drop]
        rw [ed]
        have hmu9 := mutAt_app (t := [EO.lst (prs (((List.range (n - 1)).map fun i => (i, i + 1)).drop k))]) hmu8
        have hl9 : (prs ps).length + (prs (((List.range (n - 1)).map fun i => (i, i + 1)).drop k)).length ≤ 100000 := by
          simp [prs]
          omega
        simp [f_cat hmu9 mutAt_new hl9, prs_app]
        refine q _ (ps ++ ((List.range (n - 1)).map fun i => (i, i + 1)).drop k) _ ?_ ?_ ?_ ?_ ?_ ?_
        · intro p hpm
          rcases List.mem_append.mp hpm with hpm | hpm
          · exact hp p hpm
          · obtain ⟨i, hi, rfl⟩ := List.mem_map.mp (List.mem_of_mem_drop hpm)
            have := List.mem_range.mp hi
            exact ⟨by show i < n; omega, by show i + 1 < n; omega, by show i ≠ i + 1; omega⟩
        · simp
          omega
        · have e9 : h8'.length + 1 = (h8' ++ [EO.lst (prs (((List.range (n - 1)).map fun i => (i, i + 1)).drop k))]).length := by simp
          rw [e9, show h8' ++ [EO.lst (prs (((List.range (n - 1)).map fun i => (i, i + 1)).drop k)), EO.lst (prs (ps ++ ((List.range (n - 1)).map fun i => (i, i + 1)).drop k))] = (h8' ++ [EO.lst (prs (((List.range (n - 1)).map fun i => (i, i + 1)).drop k))]) ++ [EO.lst (prs (ps ++ ((List.range (n - 1)).map fun i => (i, i + 1)).drop k))] by simp]
          exact mutAt_new
        · have := (f7.trans f8).1
          omega
        · exact hs8.fr (Fr.app _ _ _)
        · exact (f7.trans f8).trans (Fr.app _ _ _)
    · simp [h5]
      exact q _ ps _ hp (by omega) hmu5 (Nat.le_refl _) hse f5
end LW
set_option Elab.async false
set_option linter.all false
set_option maxRecDepth 100000
set_option maxHeartbeats 4000000
namespace LW
open PySem L2 EE
def adj (ps : List (Nat × Nat)) (i k : Nat) : Bool := decide ((i, k) ∈ ps) || decide ((k, i) ∈ ps)
def nats (xs : List Nat) : List EV := xs.map fun (i : Nat) => EV.int (i : Int)
theorem gvn_nats (n : Nat) (p : Nat → Bool) : gvn n p (fun i => .int (i : Int)) = nats ((List.range n).filter p) := rfl
def Rows (h : EH) (r : Nat) (n : Nat) (f : Nat → List EV) : Prop := ∃ rs : List Nat, lstAt h r = some (rs.map EV.ref) ∧ rs.length = n ∧ ∀ (i k : Nat), rs[i]? = some k → lstAt h k = some (f i)
theorem Rows.fr {h h' : EH} {r n : Nat} {f : Nat → List EV} (e : Rows h r n f) (fr : Fr [] h h') : Rows h' r n f := by
  obtain ⟨rs, h1, h2, h3⟩ := e
  exact ⟨rs, fr.lst h1 (by simp), h2, fun i k hk => fr.lst (h3 i k hk) (by simp)⟩
theorem Rows.get {h : EH} {r n : Nat} {f : Nat → List EV} (e : Rows h r n f) {i : Nat} (hi : i < n) : ∃ k, fIx (.ref r) (.int (i : Int)) h = .ok (.ref k) h ∧ lstAt h k = some (f i) := by
  obtain ⟨rs, h1, h2, h3⟩ := e
  have hl : i < rs.length := by omega
  exact ⟨rs[i], f_ixL _ h1 i rfl (by rw [List.getElem?_map, List.getElem?_eq_getElem hl]; rfl), h3 i _ (List.getElem?_eq_getElem hl)⟩
theorem near {h : EH} {t n : Nat} {ps : List (Nat × Nat)} {Q : EV → EH → Prop} (ht : lstAt h t = some (prs ps)) (h8 : n ≤ 8) (q : ∀ r h', Rows h' r n (fun i => nats ((List.range n).filter (adj ps i))) → Fr [] h h' → Q (.ref r) h') : Tri (m__law_near [.int (n : Int), .ref t] h) Q := by
  rw [u__law_near]
  simp [b__law_near, tri_bind, ap_kItR1 h (n : Int) (by omega) (by omega)]
  refine tri_lcJ (xs := rng 0 n) (fun i acc h' => Fr [] h h' ∧ ∃ rs : List Nat, acc = rs.map EV.ref ∧ rs.length = i ∧ i ≤ n ∧ ∀ (j k : Nat), rs[j]? = some k → lstAt h' k = some (nats ((List.range n).filter (adj ps j))))
    ⟨Fr.refl _ _, [], rfl, rfl, Nat.zero_le _, fun j k hk => by simp at hk⟩ (fun _ _ _ _ => rfl) (fun i acc h' q => ?_) (fun i x acc h' K hx q _ hK => ?_) fun acc h' q2 => ?_
  · obtain ⟨_, rs, rfl, hl, hn, _⟩ := q
    simp
    omega
  · obtain ⟨hf, rs, rfl, hl, hn, hr⟩ := q
    obtain ⟨hi, rfl⟩ := rng_at hx
    simp
    refine hK _ fun Ke hKe => ?_
    simp [wip, tri_bind, ap_kItR1 h' (n : Int) (by omega) (by omega)]
    refine tri_lcP (xs := rng 0 n) (adj ps i) (fun k => .int (k : Int)) (by rw [rng_len]; omega) (fun _ _ => rfl) (fun k x h2 K hx2 hf2 hK2 => ?_) (fun k x h2 K hx2 hf2 _ hK2 => ?_) fun h2 f2 => ?_
    · obtain ⟨hk, rfl⟩ := rng_at hx2
      simp [wip, tri_bind, f_inPr ((hf.trans hf2).lst ht (by simp))]
      have e : adj ps i k = (decide ((i, k) ∈ ps) || decide ((k, i) ∈ ps)) := rfl
      by_cases h1 : (i, k) ∈ ps
      · simp [h1]
        have := hK2 h2 (Fr.refl _ _)
        simp [e, h1] at this
        exact this
      · simp [h1, f_inPr ((hf.trans hf2).lst ht (by simp))]
        have := hK2 h2 (Fr.refl _ _)
        simp [e, h1] at this
        exact this
    · obtain ⟨hk, rfl⟩ := rng_at hx2
      simp [wip]
      exact hK2 h2 (Fr.refl _ _)
    · rw [rng_len, gvn_nats]
      refine hKe _ _ ⟨(hf.trans f2).trans (Fr.app _ _ _), rs ++ [h2.length], by simp, by simp [hl], by omega, fun j k hjk => ?_⟩
      by_cases hj : j < rs.length
      · rw [List.getElem?_append_left hj] at hjk
        exact lstAt_app (f2.lst (hr j k hjk) (by simp))
      · have hj2 : j = rs.length := by
          have := (List.getElem?_eq_some_iff.mp hjk).1
          simp at this
          omega
        subst hj2
        simp at hjk
        subst hjk
        rw [hl]
        exact lstAt_new
  · obtain ⟨hf, rs, rfl, hl, hn, hr⟩ := q2
    rw [rng_len] at hl
    refine q _ _ ⟨rs, lstAt_new, hl, fun i k hk => lstAt_app (hr i k hk)⟩ (hf.trans (Fr.app _ _ _))
theorem whole (v lo hi : Int) (h : EH) : m_is_whole [.int v, .int lo, .int hi] h = .ok (.bl (decide (lo ≤ v) && decide (v ≤ hi))) h := by
  rw [u_is_whole]
  by_cases h1 : lo ≤ v
  · simp [b_is_whole, Ty.isa, h1]
  · simp [b_is_whole, Ty.isa, h1]
theorem count (n : Int) (h : EH) (h2 : 2 ≤ n) (h8 : n ≤ 8) : m_check_count [.int n] h = .ok .non h := by
  rw [u_check_count]
  simp [b_check_count, whole, h2, h8]
theorem house (a n : Int) (h : EH) (h2 : 0 ≤ a) (h8 : a < n) : m_check_house [.int a, .int n] h = .ok .non h := by
  rw [u_check_house]
  simp [b_check_house, whole, h2, show a ≤ n - 1 by omega]
theorem two (a b n k : Int) (h : EH) : m_is_two [.tup [.int a, .int b], .int n, .int k] h = .ok (.bl ((decide (0 ≤ a) && decide (a ≤ n)) && (decide (0 ≤ b) && decide (b ≤ k)))) h := by
  rw [u_is_two]
  have e1 : fIx (.tup [.int a, .int b]) (.int 0) h = .ok (.int a) h := f_ixT _ 0 rfl rfl
  have e2 : fIx (.tup [.int a, .int b]) (.int 1) h = .ok (.int b) h := f_ixT _ 1 rfl rfl
  by_cases hc : 0 ≤ a ∧ a ≤ n
  · simp [b_is_two, Ty.isa, e1, e2, whole, hc]
  · have : (decide (0 ≤ a) && decide (a ≤ n)) = false := by
      rw [← Bool.not_eq_true]
      simp
      omega
    simp [b_is_two, Ty.isa, e1, e2, whole, this]
theorem pair (a b n : Int) (h : EH) : m_is_pair [.tup [.int a, .int b], .int n] h = .ok (.bl ((decide (0 ≤ a) && decide (a ≤ n - 1)) && (decide (0 ≤ b) && decide (b ≤ n - 1)))) h := by
  rw [u_is_pair]
  simp [b_is_pair, two]
end LW
set_option Elab.async false
set_option linter.all false
set_option maxRecDepth 100000
set_option maxHeartbeats 4000000
namespace LW
open PySem L2 EE
def nbr (ps : List (Nat × Nat)) (j : Nat) : List Nat := ps.flatMap fun p => (if p.1 = j then [p.2] else []) ++ (if p.2 = j then [p.1] else [])
theorem nbr_mem {ps : List (Nat × Nat)} {j k : Nat} : k ∈ nbr ps j ↔ adj ps j k = true := by
  unfold nbr adj
  simp only [List.mem_flatMap, Bool.or_eq_true, decide_eq_true_eq, List.mem_append]
  constructor
  · rintro ⟨⟨a, b⟩, hm, h | h⟩
    · by_cases e : a = j
      · simp [e] at h
        subst h e
        exact .inl hm
      · simp [e] at h
    · by_cases e : b = j
      · simp [e] at h
        subst h e
        exact .inr hm
      · simp [e] at h
  · rintro (h | h)
    · exact ⟨(j, k), h, .inl (by simp)⟩
    · exact ⟨(k, j), h, .inr (by simp)⟩
theorem nbr_snoc (ps : List (Nat × Nat)) (a b j : Nat) : nbr (ps ++ [(a, b)]) j = (nbr ps j ++ (if a = j then [b] else [])) ++ (if b = j then [a] else []) := by
  unfold nbr
  simp
theorem nbr_len (ps : List (Nat × Nat)) (j : Nat) : (nbr ps j).length ≤ 2 * ps.length := by
  induction ps with
  | nil => simp [nbr]
  | cons p ps ih =>
    have e : nbr (p :: ps) j = ((if p.1 = j then [p.2] else []) ++ (if p.2 = j then [p.1] else [])) ++ nbr ps j := by simp [nbr]
    rw [e]
    simp only [List.length_append, List.length_cons]
    have h1 : (if p.1 = j then [p.2] else []).length ≤ 1 := by split <;> simp
    have h2 : (if p.2 = j then [p.1] else []).length ≤ 1 := by split <;> simp
    omega
theorem nats_app (a b : List Nat) : nats a ++ nats b = nats (a ++ b) := by simp [nats]
def Bank (h : EH) (b n : Nat) (f : Nat → List Nat) : Prop := ∀ j, j < n → mutAt h (b + j) = some (nats (f j))
theorem Bank.push {h : EH} {b n : Nat} {f : Nat → List Nat} (B : Bank h b n f) {i c : Nat} (hi : i < n) : Bank (h.set (b + i) (.lst (nats (f i) ++ [.int (c : Int)]))) b n (fun j => f j ++ (if i = j then [c] else [])) := fun j hj => by
  have hl := mutAt_lt (B j hj)
  by_cases e : i = j
  · subst e
    rw [mutAt_set hl]
    simp only [if_pos, ← nats_app]
    rfl
  · rw [mutAt_ne (by omega), B j hj]
    simp [e]
theorem neighbours {h : EH} {t n : Nat} {ps : List (Nat × Nat)} {Q : EV → EH → Prop} (ht : lstAt h t = some (prs ps)) (hp : TiesOk n ps) (hl : ps.length ≤ 100) (h2 : 2 ≤ n) (h8 : n ≤ 8)
    (q : ∀ r h', Rows h' r n (fun i => nats (nbr ps i)) → Fr [] h h' → Q (.ref r) h') : Tri (m__neighbours [.int (n : Int), .ref t] h) Q := by
  rw [u__neighbours]
  simp [b__neighbours, tri_bind, count (n : Int) h (by omega) (by omega), kItL_ref ht]
  refine tri_for (xs := prs ps) (fun i es h' => h' = h ∧ ∃ x, es = [some (.int n), some (.ref t), x, none, none, none, none]) ⟨rfl, none, rfl⟩ (fun i es h' ⟨e, _⟩ => by subst e; exact ht) ?_ ?_
  · rintro i v es h' K hv ⟨rfl, x, rfl⟩ hK _ _ _
    unfold prs at hv
    rw [List.getElem?_map] at hv
    obtain ⟨p, hn, rfl⟩ := Option.map_eq_some_iff.mp hv
    obtain ⟨a, b⟩ := p
    obtain ⟨ha, hb, hab⟩ := hp _ (List.mem_of_getElem? hn)
    simp only at ha hb hab
    have e1 : fIx (.tup [.int (a : Int), .int (b : Int)]) (.int 0) h' = .ok (.int a) h' := f_ixT _ 0 rfl rfl
    have e2 : fIx (.tup [.int (a : Int), .int (b : Int)]) (.int 1) h' = .ok (.int b) h' := f_ixT _ 1 rfl rfl
    simp [tri_bind, pair, e1, e2, show (a : Int) ≤ n - 1 by omega, show (b : Int) ≤ n - 1 by omega, show ¬ (a : Int) = b by omega]
    exact hK _ _ ⟨rfl, _, rfl⟩
  · rintro es h' ⟨rfl, x, rfl⟩
    simp [tri_bind, ap_kItR1 h' (n : Int) (by omega) (by omega)]
    refine tri_lcJ (xs := rng 0 n) (fun i acc h2 => h2 = h' ++ List.replicate i (.lst []) ∧ acc = (List.range i).map (fun j => EV.ref (h'.length + j)) ∧ i ≤ n) ⟨by simp, by simp, Nat.zero_le _⟩ (fun _ _ _ _ => rfl) (fun i acc h2 q2 => by obtain ⟨_, rfl, hn⟩ := q2; simp; omega)
      (fun i x acc h2 K hx q2 _ hK => ?_) fun acc h2 q2 => ?_
    · obtain ⟨rfl, rfl, hn⟩ := q2
      obtain ⟨hi, rfl⟩ := rng_at hx
      simp
      refine hK _ fun Ke hKe => ?_
      simp
      refine hKe _ _ ⟨?_, ?_, by omega⟩
      · rw [List.replicate_succ']
      · rw [List.range_succ, List.map_append]
        rfl
    · obtain ⟨rfl, rfl, hn⟩ := q2
      rw [rng_len]
      generalize eh2 : h' ++ List.replicate n (EO.lst []) = h2
      have l2 : h2.length = h'.length + n := by rw [← eh2]; simp
      have f2 : Fr [] h' h2 := by rw [← eh2]; exact Fr.app _ _ _
      have B0 : Bank (h2 ++ [.lst ((List.range n).map fun j => EV.ref (h'.length + j))]) h'.length n (nbr []) := fun j hj => by
        refine mutAt_app ?_
        rw [← eh2]
        unfold mutAt
        rw [List.getElem?_append_right (by omega), Nat.add_sub_cancel_left, List.getElem?_replicate, if_pos hj]
        rfl
      have e0 : lstAt (h2 ++ [.lst ((List.range n).map fun j => EV.ref (h'.length + j))]) h2.length = some ((List.range n).map fun j => EV.ref (h'.length + j)) := lstAt_new
      have f3 : Fr [] h' (h2 ++ [.lst ((List.range n).map fun j => EV.ref (h'.length + j))]) := f2.trans (Fr.app _ _ _)
      generalize h2 ++ [.lst ((List.range n).map fun j => EV.ref (h'.length + j))] = h3 at *
      simp [tri_bind, kItL_ref (f3.lst ht (by simp))]
      refine tri_for (xs := prs ps) (fun i es h4 => ∃ x y z, es = [some (.int n), some (.ref t), x, some (.ref h2.length), y, z, none] ∧ Fr [] h' h4 ∧ Bank h4 h'.length n (nbr (ps.take i)) ∧ lstAt h4 h2.length = some ((List.range n).map fun j => EV.ref (h'.length + j)))
        ⟨x, none, none, rfl, f3, by simpa using B0, e0⟩ (fun i es h4 ⟨_, _, _, _, f, _⟩ => f.lst ht (by simp)) ?_ ?_
      · rintro i v es h4 K hv ⟨x, y, z, rfl, f4, B4, e4⟩ hK _ _ _
        unfold prs at hv
        rw [List.getElem?_map] at hv
        obtain ⟨p, hpi, rfl⟩ := Option.map_eq_some_iff.mp hv
        obtain ⟨a, b⟩ := p
        obtain ⟨ha, hb, hab⟩ := hp _ (List.mem_of_getElem? hpi)
        simp only at ha hb hab
        have ia : fIx (.ref h2.length) (.int (a : Int)) h4 = .ok (.ref (h'.length + a)) h4 := f_ixL _ e4 a rfl (by simp [ha])
        have hil := (List.getElem?_eq_some_iff.mp hpi).1
        have len1 := nbr_len (ps.take i) a
        have len2 := nbr_len (ps.take i) b
        simp only [List.length_take] at len1 len2
        have l1 : (nats (nbr (ps.take i) a)).length < 100000 := by simp [nats]; omega
        have B5 := B4.push (c := b) ha
        have e5 : lstAt (h4.set (h'.length + a) (.lst (nats (nbr (ps.take i) a) ++ [.int (b : Int)]))) h2.length = some ((List.range n).map fun j => EV.ref (h'.length + j)) := by
          rw [lstAt_ne (by omega)]
          exact e4
        have f5 : Fr [] h' (h4.set (h'.length + a) (.lst (nats (nbr (ps.take i) a) ++ [.int (b : Int)]))) := f4.set (.inr (by omega))
        simp [tri_bind, ia, kBM_ref _ _ _ (lst_mut (B4 a ha)), m_append (B4 a ha) l1]
        generalize h4.set (h'.length + a) (.lst (nats (nbr (ps.take i) a) ++ [.int (b : Int)])) = h5 at *
        have ib : fIx (.ref h2.length) (.int (b : Int)) h5 = .ok (.ref (h'.length + b)) h5 := f_ixL _ e5 b rfl (by simp [hb])
        have l3 : (nats (nbr (ps.take i) b ++ if a = b then [b] else [])).length < 100000 := by
          rw [if_neg hab]
          simp [nats]
          omega
        have B6 := B5.push (c := a) hb
        simp [ib, kBM_ref _ _ _ (lst_mut (B5 b hb)), m_append (B5 b hb) l3]
        refine hK _ _ ⟨_, _, _, rfl, f5.set (.inr (by omega)), ?_, ?_⟩
        · rw [List.take_add_one, hpi]
          have : nbr (ps.take i ++ [(a, b)]) = fun j => (nbr (ps.take i) j ++ (if a = j then [b] else [])) ++ (if b = j then [a] else []) := by
            funext j
            exact nbr_snoc _ a b j
          show Bank _ _ _ (nbr (ps.take i ++ [(a, b)]))
          rw [this]
          exact B6
        · rw [lstAt_ne (by omega)]
          exact e5
      · rintro es h4 ⟨x, y, z, rfl, f4, B4, e4⟩
        simp
        refine q _ _ ⟨(List.range n).map fun j => h'.length + j, ?_, by simp, fun i k hk => ?_⟩ f4
        · rw [e4, List.map_map]
          rfl
        · rw [List.getElem?_map] at hk
          obtain ⟨j, hj, rfl⟩ := Option.map_eq_some_iff.mp hk
          obtain ⟨h5, h6⟩ := List.getElem?_eq_some_iff.mp hj
          simp at h5 h6
          subst h6
          have := B4 i h5
          rw [List.take_of_length_le (by simp [prs])] at this
          exact lst_mut this
end LW
set_option Elab.async false
set_option linter.all false
set_option maxRecDepth 100000
set_option maxHeartbeats 4000000
namespace LW
open PySem L2 EE
abbrev naD (xs : List Nat) : List PyData := xs.map fun (i : Nat) => PyData.int (i : Int)
theorem dat0s_nats (f : Nat → Option (List PyData)) : ∀ xs : List Nat, dat0s f (nats xs) = some (naD xs)
  | [] => by simp [nats, dat0s]
  | p :: ps => by
    have := dat0s_nats f ps
    simp only [nats] at this ⊢
    simp [dat0s, dat0, this]
theorem datF_nats {h : EH} {t : Nat} {xs : List Nat} (e : lstAt h t = some (nats xs)) (m : Nat) : datF h (m + 1) t = some (naD xs) := by
  simp only [datF, e]
  exact dat0s_nats _ xs
theorem canLay_nats : ∀ xs : List Nat, PyData.canLayAll0 (naD xs) = true
  | [] => by simp [PyData.canLayAll0]
  | p :: ps => by
    have := canLay_nats ps
    simp [PyData.canLayAll0, PyData.canLay0, this]
theorem depth_nats : ∀ xs : List Nat, PyData.depthAll (naD xs) = 0
  | [] => by simp [PyData.depthAll]
  | p :: ps => by
    have := depth_nats ps
    simp only [List.map_cons, PyData.depthAll, PyData.depth, this]
    rfl
theorem shaped_nats (xs : List Nat) : SeqAt.shaped (.list (naD xs)) = true := by
  unfold SeqAt.shaped
  simp [PyData.canLay0, canLay_nats, PyData.depth, depth_nats]
theorem shaped_int (a : Int) : SeqAt.shaped (.int a) = true := by
  simp [SeqAt.shaped, PyData.canLay0, PyData.depth]
theorem f_inNat {h : EH} {t : Nat} {xs : List Nat} (e : lstAt h t = some (nats xs)) (a : Nat) : fIn (.int (a : Int)) (.ref t) h = .ok (.bl (decide (a ∈ xs))) h := by
  show fInL false _ _ _ = _
  have ed : dat h (.int (a : Int)) = some (.int a) := by simp [dat, dat0]
  simp only [fInL, ed, datF_nats e 3, shaped_int, shaped_nats, Bool.and_self, if_true]
  congr 2
  rw [Bool.eq_iff_iff]
  simp only [Bool.false_bne, List.any_map, List.any_eq_true, Function.comp_apply, decide_eq_true_eq, PyData.eqv]
  constructor
  · rintro ⟨b, hm, he⟩
    have e1 := eq_of_beq he
    have : b = a := by omega
    rw [← this]
    exact hm
  · intro hm
    exact ⟨a, hm, by simp⟩
theorem f_notInNat {h : EH} {t : Nat} {xs : List Nat} (e : lstAt h t = some (nats xs)) (a : Nat) : fNotIn (.int (a : Int)) (.ref t) h = .ok (.bl (decide (a ∉ xs))) h := by
  have h1 := f_inNat e a
  show fInL true _ _ _ = _
  have h1 : fInL false (.int (a : Int)) (.ref t) h = .ok (.bl (decide (a ∈ xs))) h := h1
  have ed : dat h (.int (a : Int)) = some (.int a) := by simp [dat, dat0]
  simp only [fInL, ed, datF_nats e 3, shaped_int, shaped_nats, Bool.and_self, if_true] at h1 ⊢
  injection h1 with h1 _
  injection h1 with h1
  simp only [Bool.false_bne] at h1
  rw [h1]
  simp
theorem dat_lst {h : EH} {n : Nat} {xs : List EV} {ds : List PyData} (e : lstAt h n = some xs) (hd : dat0s (datF h 3) xs = some ds) : dat h (.ref n) = some (.list ds) := by
  have h4 : datF h 4 n = some ds := by
    rw [show datF h 4 n = (match lstAt h n with | some xs => dat0s (datF h 3) xs | none => none) from rfl, e]
    exact hd
  unfold dat
  simp only [dat0, h4, Option.map_some]
theorem f_neNil {h : EH} {a b : Nat} {xs : List Nat} (ha : lstAt h a = some (nats xs)) (hb : lstAt h b = some []) : fNe (.ref a) (.ref b) h = .ok (.bl (!xs.isEmpty)) h := by
  show (Res.no).orElse _ = _
  have e1 := dat_lst ha (dat0s_nats _ xs)
  have e2 := dat_lst hb (show dat0s (datF h 3) [] = some [] by simp [dat0s])
  simp only [orE_no, fEqD, e1, e2, shaped_nats, Bool.true_and]
  rw [if_pos (by rfl)]
  cases xs with
  | nil => simp [PyData.eqv, PyData.eqvAll]
  | cons x xs => simp [PyData.eqv, PyData.eqvAll]
theorem eqv_prs : ∀ ps : List (Nat × Nat), PyData.eqvAll (ps.map prD) (ps.map prD) = true
  | [] => by simp [PyData.eqvAll]
  | p :: ps => by
    have := eqv_prs ps
    simp [PyData.eqvAll, PyData.eqv, this]
theorem f_nePrs {h : EH} {a b : Nat} {ps : List (Nat × Nat)} (ha : lstAt h a = some (prs ps)) (hb : lstAt h b = some (prs ps)) : fNe (.ref a) (.ref b) h = .ok (.bl false) h := by
  show (Res.no).orElse _ = _
  have e1 := dat_lst ha (dat0s_prs _ ps)
  have e2 := dat_lst hb (dat0s_prs _ ps)
  simp only [orE_no, fEqD, e1, e2, shaped_prs, Bool.and_self, if_true]
  simp [PyData.eqv, eqv_prs]
theorem gvn_filter (p : Nat → Bool) (xs : List Nat) : gvn xs.length (fun i => p (xs.getD i 0)) (fun i => .int ((xs.getD i 0 : Nat) : Int)) = nats (xs.filter p) := by
  have key : ∀ m, m ≤ xs.length → gvn m (fun i => p (xs.getD i 0)) (fun i => .int ((xs.getD i 0 : Nat) : Int)) = nats ((xs.take m).filter p) := by
    intro m
    induction m with
    | zero => intro _; simp [gvn, nats]
    | succ m ih =>
      intro hm
      have hlt : m < xs.length := by omega
      have ed : xs.getD m 0 = xs[m] := by simp [List.getD, hlt]
      rw [List.take_add_one, List.getElem?_eq_getElem hlt]
      simp only [Option.toList, List.filter_append]
      cases hp : p xs[m] with
      | true =>
        rw [gvn_yes (by rw [ed]; exact hp), ih (by omega), ed]
        simp [nats, hp]
      | false =>
        rw [gvn_no (by rw [ed]; exact hp), ih (by omega)]
        simp [nats, hp]
  rw [key _ (Nat.le_refl _), List.take_length]
theorem lc_nats {it : Wlk} {j : Nat} {t : DT} {vs : List Nat} {xs : List Nat} {es : ES} {h : EH} {Q : EV → EH → Prop} (p : Nat → Bool) (hl : xs.length < 50000) (hcur : ∀ h', Fr [] h h' → it.cur h' = some (nats xs)) (htl : ∀ i x, it.tl i x = x) (hj : j < es.length) (hvs : vs = [j])
    (ht : ∀ (x : Nat) h' (K : Bool → EH → Prop), x ∈ xs → Fr [] h h' → (∀ h2, Fr [] h' h2 → K (p x) h2) → Tri (t (es.set j (some (.int (x : Int)))) h') K)
    (hend : ∀ h', Fr [] h h' → Q (.ref h'.length) (h' ++ [.lst (nats (xs.filter p))])) : Tri (kLc (dName j) t (dVar j) vs es it h) Q := by
  subst hvs
  have eset : ∀ v : EV, (wip es [j]).set j (some v) = es.set j (some v) := fun v => by
    show ((es.set j none).set j (some v)) = _
    rw [List.set_set]
  refine tri_lcP (xs := nats xs) (fun i => p (xs.getD i 0)) (fun i => .int ((xs.getD i 0 : Nat) : Int)) (by simpa [nats] using hl) hcur (fun i v h' K hv hf hK => ?_) (fun i v h' K hv hf _ hK => ?_) fun h' hf => ?_
  · unfold nats at hv
    rw [List.getElem?_map] at hv
    obtain ⟨x, hx, rfl⟩ := Option.map_eq_some_iff.mp hv
    have ed : xs.getD i 0 = x := by simp [List.getD, hx]
    rw [htl, eset]
    rw [ed] at hK
    exact ht x h' K (List.mem_of_getElem? hx) hf hK
  · unfold nats at hv
    rw [List.getElem?_map] at hv
    obtain ⟨x, hx, rfl⟩ := Option.map_eq_some_iff.mp hv
    have ed : xs.getD i 0 = x := by simp [List.getD, hx]
    rw [htl, eset]
    rw [ed] at hK
    simp [List.getElem?_set_self hj]
    exact hK _ (Fr.refl _ _)
  · have : (nats xs).length = xs.length := by simp [nats]
    rw [this, gvn_filter]
    exact hend h' hf
theorem St.no {ns : List Int} {h : EH} {s k : Nat} (hs : St ns h s) {xs : List Nat} (e : lstAt h k = some (nats xs)) : k ≠ s := by
  rintro rfl
  obtain ⟨o, h1, ⟨b, x, l, rfl, _⟩, _⟩ := hs
  unfold lstAt at e
  rw [h1] at e
  cases xs with
  | nil => simp [nats] at e
  | cons y ys => simp [nats] at e
theorem St.noR {ns : List Int} {h : EH} {s k : Nat} (hs : St ns h s) {xs : List Nat} (e : lstAt h k = some (xs.map EV.ref)) : k ≠ s := by
  rintro rfl
  obtain ⟨o, h1, ⟨b, x, l, rfl, _⟩, _⟩ := hs
  unfold lstAt at e
  rw [h1] at e
  cases xs with
  | nil => simp at e
  | cons y ys =>
    cases ys with
    | nil => simp at e
    | cons z zs => simp at e
theorem Rows.frS {ns : List Int} {h h' : EH} {s r n : Nat} {g : Nat → List Nat} (hs : St ns h s) (e : Rows h r n fun i => nats (g i)) (f : Fr [s] h h') : Rows h' r n fun i => nats (g i) := by
  obtain ⟨rs, h1, h2, h3⟩ := e
  exact ⟨rs, f.lst h1 (by simp [hs.noR h1]), h2, fun i k hk => f.lst (h3 i k hk) (by simp [hs.no (h3 i k hk)])⟩
end LW
set_option Elab.async false
set_option linter.all false
set_option maxRecDepth 100000
set_option maxHeartbeats 4000000
namespace HW
open PySem L2 EE
def b_House___init__ : DS :=
  (dSeq (dDrop (dCall LW.m_check_count (dCons (dVar 2) dNil)))
  (dSeq (dDrop (dCall LW.m_check_house (dCons (dVar 1) (dCons (dVar 2) dNil))))
  (dSeq (dSetF 0 0 (dVar 0) (dVar 1))
  (dSeq (dSetF 0 1 (dVar 0) (dVar 2))
  (dSeq (dSetF 0 2 (dVar 0) (dC (.int 0)))
  (dSeq (dSetF 0 3 (dVar 0) (dC (.int 0)))
  (dSeq (dSetF 0 4 (dVar 0) (dC (.int 0)))
  (dSeq (dSetF 0 5 (dVar 0) (dNewD false))
  (dSeq (dSetF 0 6 (dVar 0) (dNewD true))
  (dSeq (dSetF 0 7 (dVar 0) (dNewD true))
  (dSeq (dSetF 0 8 (dVar 0) (dNewD true))
  (dSeq (dSetF 0 9 (dVar 0) (dLc (dItR1 (dCons (dVar 2) dNil)) (dName 3) dYes (dNewD true) [3]))
  (dSetF 0 10 (dVar 0) (dLc (dItR1 (dCons (dVar 2) dNil)) (dName 3) dYes (dNewD true) [3]))))))))))))))
def m_House___init__ : DL := dDef 3 4 b_House___init__
theorem u_House___init__ (a0 : EV) (a1 : EV) (a2 : EV) (h : EH) : m_House___init__ [a0, a1, a2] h = (b_House___init__ [some a0, some a1, some a2, none] h).bind kDef := rfl
def b_House__check_other : DS :=
  (dSeq (dDrop (dCall LW.m_check_house (dCons (dVar 1) (dCons (dFld 0 1 (dVar 0)) dNil))))
  (dIfS (dB (dOp fEq (dVar 1) (dFld 0 0 (dVar 0)))) dNever
  dNext))
def m_House__check_other : DL := dDef 2 2 b_House__check_other
theorem u_House__check_other (a0 : EV) (a1 : EV) (h : EH) : m_House__check_other [a0, a1] h = (b_House__check_other [some a0, some a1] h).bind kDef := rfl
def b_House_tie : DS :=
  (dSeq (dDrop (dMeth 0 m_House__check_other (dVar 0) (dCons (dVar 1) dNil)))
  (dAsg (dC (.bl true)) (dGSub (dFld 0 5 (dVar 0)) (dVar 1) sDic)))
def m_House_tie : DL := dDef 2 2 b_House_tie
theorem u_House_tie (a0 : EV) (a1 : EV) (h : EH) : m_House_tie [a0, a1] h = (b_House_tie [some a0, some a1] h).bind kDef := rfl
def b_House_untie : DS :=
  (dSeq (dDrop (dMeth 0 m_House__check_other (dVar 0) (dCons (dVar 1) dNil)))
  (dDrop (dBMD mPopK (dFld 0 5 (dVar 0)) (dCons (dVar 1) (dCons (dC .non) dNil)))))
def m_House_untie : DL := dDef 2 2 b_House_untie
theorem u_House_untie (a0 : EV) (a1 : EV) (h : EH) : m_House_untie [a0, a1] h = (b_House_untie [some a0, some a1] h).bind kDef := rfl
def b_House_day : DS :=
  (dSeq (dIfS (dNot (dB (dCall LW.m_is_whole (dCons (dVar 1) (dCons (dOp fAdd (dFld 0 2 (dVar 0)) (dC (.int 1))) (dCons (dC (.int 10000)) dNil)))))) dNever
  dNext)
  (dSeq (dSetF 0 2 (dVar 0) (dVar 1))
  (dSetF 0 7 (dVar 0) (dLockE (dFld 0 7 (dVar 0)) (dDc true (dItIT (dFld 0 7 (dVar 0))) (dGTup 2 (dGCons (dName 2) (dGCons (dName 3) dGNil))) (dB (dOp fGt (dOp fIx (dVar 3) (dC (.int 1))) (dVar 1))) (dVar 2) (dVar 3) [2, 3])))))
def m_House_day : DL := dDef 2 4 b_House_day
theorem u_House_day (a0 : EV) (a1 : EV) (h : EH) : m_House_day [a0, a1] h = (b_House_day [some a0, some a1, none, none] h).bind kDef := rfl
def b_House__take : DS :=
  (dSeq (dAsg (dC (.bl true)) (dGSub (dFld 0 6 (dVar 0)) (dVar 1) sDic))
  (dAsg (dTup (dCons (dVar 2) (dCons (dVar 3) dNil))) (dGSub (dFld 0 7 (dVar 0)) (dVar 1) sDic)))
def m_House__take : DL := dDef 4 4 b_House__take
theorem u_House__take (a0 : EV) (a1 : EV) (a2 : EV) (a3 : EV) (h : EH) : m_House__take [a0, a1, a2, a3] h = (b_House__take [some a0, some a1, some a2, some a3] h).bind kDef := rfl
def b_House_write : DS :=
  (dSeq (dIfS (dNot (dB (dCall LW.m_is_whole (dCons (dVar 1) (dCons (dC (.int 0)) (dCons (dC (.int 999)) dNil)))))) dNever
  dNext)
  (dSeq (dIfS (dNot (dB (dCall LW.m_is_whole (dCons (dVar 2) (dCons (dC (.int 1)) (dCons (dC (.int 30)) dNil)))))) dNever
  dNext)
  (dSeq (dAsg (dTup (dCons (dFld 0 0 (dVar 0)) (dCons (dFld 0 3 (dVar 0)) dNil))) (dName 3))
  (dSeq (dAugF 0 3 fAddI (dVar 0) (dC (.int 1)))
  (dSeq (dDrop (dMeth 0 m_House__take (dVar 0) (dCons (dVar 3) (dCons (dVar 1) (dCons (dOp fAdd (dFld 0 2 (dVar 0)) (dVar 2)) dNil)))))
  (dRet (dVar 3)))))))
def m_House_write : DL := dDef 3 4 b_House_write
theorem u_House_write (a0 : EV) (a1 : EV) (a2 : EV) (h : EH) : m_House_write [a0, a1, a2] h = (b_House_write [some a0, some a1, some a2, none] h).bind kDef := rfl
def b_House__is_own : DS :=
  (dRet (dAndV (dCall LW.m_is_two (dCons (dVar 1) (dCons (dFld 0 0 (dVar 0)) (dCons (dOp fSub (dFld 0 3 (dVar 0)) (dC (.int 1))) dNil)))) (dOp fEq (dOp fIx (dVar 1) (dC (.int 0))) (dFld 0 0 (dVar 0)))))
def m_House__is_own : DL := dDef 2 2 b_House__is_own
theorem u_House__is_own (a0 : EV) (a1 : EV) (h : EH) : m_House__is_own [a0, a1] h = (b_House__is_own [some a0, some a1] h).bind kDef := rfl
def b_House__drop : DS :=
  (dSeq (dAsg (dC (.bl true)) (dGSub (dFld 0 8 (dVar 0)) (dVar 1) sDic))
  (dDrop (dBMD mPopT (dFld 0 7 (dVar 0)) (dCons (dVar 1) (dCons (dC .non) dNil)))))
def m_House__drop : DL := dDef 2 2 b_House__drop
theorem u_House__drop (a0 : EV) (a1 : EV) (h : EH) : m_House__drop [a0, a1] h = (b_House__drop [some a0, some a1] h).bind kDef := rfl
def b_House_call_back : DS :=
  (dSeq (dIfS (dNot (dB (dMeth 0 m_House__is_own (dVar 0) (dCons (dVar 1) dNil)))) dNever
  dNext)
  (dIfS (dB (dOp (fDIn false) (dVar 1) (dFld 0 7 (dVar 0)))) (dDrop (dMeth 0 m_House__drop (dVar 0) (dCons (dVar 1) dNil)))
  dNext))
def m_House_call_back : DL := dDef 2 2 b_House_call_back
theorem u_House_call_back (a0 : EV) (a1 : EV) (h : EH) : m_House_call_back [a0, a1] h = (b_House_call_back [some a0, some a1] h).bind kDef := rfl
def b_House_notes : DS :=
  (dRet (dLc (dItL (dCB fSorted (dCons (dFld 0 7 (dVar 0)) dNil))) (dName 1) dYes (dTup (dCons (dVar 1) (dCons (dOp fIx (dOp fDGet (dFld 0 7 (dVar 0)) (dVar 1)) (dC (.int 0))) dNil))) [1]))
def m_House_notes : DL := dDef 1 2 b_House_notes
theorem u_House_notes (a0 : EV) (h : EH) : m_House_notes [a0] h = (b_House_notes [some a0, none] h).bind kDef := rfl
def b_House_came : DS :=
  (dRet (dCB fKeysT (dCons (dFld 0 6 (dVar 0)) dNil)))
def m_House_came : DL := dDef 1 1 b_House_came
theorem u_House_came (a0 : EV) (h : EH) : m_House_came [a0] h = (b_House_came [some a0] h).bind kDef := rfl
def b_House_copies : DS :=
  (dRet (dFld 0 4 (dVar 0)))
def m_House_copies : DL := dDef 1 1 b_House_copies
theorem u_House_copies (a0 : EV) (h : EH) : m_House_copies [a0] h = (b_House_copies [some a0] h).bind kDef := rfl
def b_House__unsettled : DS :=
  (dSeq (dAsg (dOp fIx (dFld 0 9 (dVar 0)) (dVar 1)) (dName 2))
  (dRet (dCB fTupL (dCons (dLockE (dFld 0 7 (dVar 0)) (dLc (dItK (dFld 0 7 (dVar 0))) (dName 3) (dB (dOp (fDIn true) (dVar 3) (dVar 2))) (dTup (dCons (dVar 3) (dCons (dOp fIx (dOp fDGet (dFld 0 7 (dVar 0)) (dVar 3)) (dC (.int 1))) dNil))) [3])) dNil))))
def m_House__unsettled : DL := dDef 2 4 b_House__unsettled
theorem u_House__unsettled (a0 : EV) (a1 : EV) (h : EH) : m_House__unsettled [a0, a1] h = (b_House__unsettled [some a0, some a1, none, none] h).bind kDef := rfl
def b_House__untold_backs : DS :=
  (dSeq (dAsg (dOp fIx (dFld 0 10 (dVar 0)) (dVar 1)) (dName 2))
  (dRet (dCB fTupL (dCons (dLockE (dFld 0 8 (dVar 0)) (dLc (dItK (dFld 0 8 (dVar 0))) (dName 3) (dB (dOp (fDIn true) (dVar 3) (dVar 2))) (dVar 3) [3])) dNil))))
def m_House__untold_backs : DL := dDef 2 4 b_House__untold_backs
theorem u_House__untold_backs (a0 : EV) (a1 : EV) (h : EH) : m_House__untold_backs [a0, a1] h = (b_House__untold_backs [some a0, some a1, none, none] h).bind kDef := rfl
def b_House_letters : DS :=
  (dSeq (dAsg (dLst dNil) (dName 1))
  (dSeq (dFor (dItL (dCB fSorted (dCons (dFld 0 5 (dVar 0)) dNil))) (dName 2)
  (dSeq (dAsg (dMeth 0 m_House__unsettled (dVar 0) (dCons (dVar 2) dNil)) (dName 3))
  (dSeq (dAsg (dMeth 0 m_House__untold_backs (dVar 0) (dCons (dVar 2) dNil)) (dName 4))
  (dIfS (dOr (dTru (dVar 3)) (dTru (dVar 4))) (dDrop (dBM mApp (dVar 1) (dCons (dTup (dCons (dVar 2) (dCons (dTup (dCons (dC (.str "news")) (dCons (dFld 0 0 (dVar 0)) (dCons (dVar 3) (dCons (dVar 4) dNil))))) dNil))) dNil)))
  dNext))))
  (dRet (dVar 1))))
def m_House_letters : DL := dDef 1 5 b_House_letters
theorem u_House_letters (a0 : EV) (h : EH) : m_House_letters [a0] h = (b_House_letters [some a0, none, none, none, none] h).bind kDef := rfl
def b_House__is_barred : DS :=
  (dRet (dOrV (dOp fLe (dVar 2) (dFld 0 2 (dVar 0))) (dOp (fDIn false) (dVar 1) (dFld 0 8 (dVar 0)))))
def m_House__is_barred : DL := dDef 3 3 b_House__is_barred
theorem u_House__is_barred (a0 : EV) (a1 : EV) (a2 : EV) (h : EH) : m_House__is_barred [a0, a1, a2] h = (b_House__is_barred [some a0, some a1, some a2] h).bind kDef := rfl
def b_House__hear_news : DS :=
  (dSeq (dFor (dItT (dVar 3)) (dName 4)
  (dSeq (dAsg (dC (.bl true)) (dGSub (dOp fIx (dFld 0 10 (dVar 0)) (dVar 1)) (dVar 4) sDic))
  (dDrop (dMeth 0 m_House__drop (dVar 0) (dCons (dVar 4) dNil)))))
  (dSeq (dAsg (dLst dNil) (dName 5))
  (dSeq (dAsg (dLst dNil) (dName 6))
  (dSeq (dFor (dItT (dVar 2)) (dGTup 2 (dGCons (dName 4) (dGCons (dName 7) dGNil)))
  (dSeq (dAsg (dC (.bl true)) (dGSub (dOp fIx (dFld 0 9 (dVar 0)) (dVar 1)) (dVar 4) sDic))
  (dIfS (dOr (dB (dOp (fDIn false) (dVar 4) (dFld 0 6 (dVar 0)))) (dB (dMeth 0 m_House__is_barred (dVar 0) (dCons (dVar 4) (dCons (dVar 7) dNil))))) (dDrop (dBM mApp (dVar 5) (dCons (dVar 4) dNil)))
  (dDrop (dBM mApp (dVar 6) (dCons (dVar 4) dNil))))))
  (dRet (dTup (dCons (dC (.str "reply")) (dCons (dFld 0 0 (dVar 0)) (dCons (dCB fTupL (dCons (dVar 5) dNil)) (dCons (dVar 3) (dCons (dCB fTupL (dCons (dVar 6) dNil)) dNil)))))))))))
def m_House__hear_news : DL := dDef 4 8 b_House__hear_news
theorem u_House__hear_news (a0 : EV) (a1 : EV) (a2 : EV) (a3 : EV) (h : EH) : m_House__hear_news [a0, a1, a2, a3] h = (b_House__hear_news [some a0, some a1, some a2, some a3, none, none, none, none] h).bind kDef := rfl
def b_House__hear_reply : DS :=
  (dSeq (dFor (dItT (dVar 2)) (dName 5)
  (dAsg (dC (.bl true)) (dGSub (dOp fIx (dFld 0 9 (dVar 0)) (dVar 1)) (dVar 5) sDic)))
  (dSeq (dFor (dItT (dVar 3)) (dName 5)
  (dAsg (dC (.bl true)) (dGSub (dOp fIx (dFld 0 10 (dVar 0)) (dVar 1)) (dVar 5) sDic)))
  (dSeq (dAsg (dLst dNil) (dName 6))
  (dSeq (dFor (dItT (dVar 4)) (dName 5)
  (dIfS (dAnd (dB (dOp (fDIn false) (dVar 5) (dFld 0 7 (dVar 0)))) (dB (dOp (fDIn true) (dVar 5) (dOp fIx (dFld 0 9 (dVar 0)) (dVar 1))))) (dSeq (dAsg (dOp fDGet (dFld 0 7 (dVar 0)) (dVar 5)) (dGTup 2 (dGCons (dName 7) (dGCons (dName 8) dGNil))))
  (dDrop (dBM mApp (dVar 6) (dCons (dTup (dCons (dVar 5) (dCons (dVar 7) (dCons (dVar 8) dNil)))) dNil))))
  dNext))
  (dSeq (dIfS (dNot (dTru (dVar 6))) (dRet (dC .non))
  dNext)
  (dRet (dTup (dCons (dC (.str "notes")) (dCons (dFld 0 0 (dVar 0)) (dCons (dCB fTupL (dCons (dVar 6) dNil)) dNil))))))))))
def m_House__hear_reply : DL := dDef 5 9 b_House__hear_reply
theorem u_House__hear_reply (a0 : EV) (a1 : EV) (a2 : EV) (a3 : EV) (a4 : EV) (h : EH) : m_House__hear_reply [a0, a1, a2, a3, a4] h = (b_House__hear_reply [some a0, some a1, some a2, some a3, some a4, none, none, none, none] h).bind kDef := rfl
def b_House__hear_notes : DS :=
  (dSeq (dAsg (dLst dNil) (dName 2))
  (dSeq (dFor (dItT (dVar 1)) (dGTup 3 (dGCons (dName 3) (dGCons (dName 4) (dGCons (dName 5) dGNil))))
  (dSeq (dDrop (dBM mApp (dVar 2) (dCons (dVar 3) dNil)))
  (dSeq (dIfS (dB (dMeth 0 m_House__is_barred (dVar 0) (dCons (dVar 3) (dCons (dVar 5) dNil)))) dCont
  dNext)
  (dSeq (dAugF 0 4 fAddI (dVar 0) (dC (.int 1)))
  (dIfS (dB (dOp (fDIn true) (dVar 3) (dFld 0 6 (dVar 0)))) (dDrop (dMeth 0 m_House__take (dVar 0) (dCons (dVar 3) (dCons (dVar 4) (dCons (dVar 5) dNil)))))
  dNext)))))
  (dRet (dTup (dCons (dC (.str "reply")) (dCons (dFld 0 0 (dVar 0)) (dCons (dCB fTupL (dCons (dVar 2) dNil)) (dCons (dTup dNil) (dCons (dTup dNil) dNil)))))))))
def m_House__hear_notes : DL := dDef 2 6 b_House__hear_notes
theorem u_House__hear_notes (a0 : EV) (a1 : EV) (h : EH) : m_House__hear_notes [a0, a1] h = (b_House__hear_notes [some a0, some a1, none, none, none, none] h).bind kDef := rfl
def b_House_hear : DS :=
  (dSeq (dAsg (dVar 1) (dGTup 2 (dGCons (dName 2) (dGCons (dName 3) dGNil))))
  (dSeq (dIfS (dB (dOp fNe (dVar 2) (dFld 0 0 (dVar 0)))) dNever
  dNext)
  (dSeq (dAsg (dVar 3) (dGStar 2 (dGCons (dName 4) (dGCons (dName 5) (dGCons (dName 6) dGNil)))))
  (dSeq (dIfS (dB (dOp fEq (dVar 4) (dC (.str "news")))) (dAsg (dMethSB 0 m_House__hear_news (dVar 0) (dVar 5) (dVar 6)) (dName 7))
  (dIfS (dB (dOp fEq (dVar 4) (dC (.str "reply")))) (dAsg (dMethSB 0 m_House__hear_reply (dVar 0) (dVar 5) (dVar 6)) (dName 7))
  (dAsg (dMethS 0 m_House__hear_notes (dVar 0) (dVar 6)) (dName 7))))
  (dSeq (dIfS (dOr (dB (dOp (fIsN false) (dVar 7) (dC .non))) (dB (dOp (fDIn true) (dVar 5) (dFld 0 5 (dVar 0))))) (dRet (dLst dNil))
  dNext)
  (dRet (dLst (dCons (dTup (dCons (dVar 5) (dCons (dVar 7) dNil))) dNil))))))))
def m_House_hear : DL := dDef 2 8 b_House_hear
theorem u_House_hear (a0 : EV) (a1 : EV) (h : EH) : m_House_hear [a0, a1] h = (b_House_hear [some a0, some a1, none, none, none, none, none, none] h).bind kDef := rfl
end HW
set_option linter.all false
namespace NF
abbrev Mark := Int × Int
abbrev Note := Mark × Int × Int
def ins (l : List Mark) (x : Mark) : List Mark := if x ∈ l then l else l ++ [x]
def putN (l : List Note) (m : Mark) (w e : Int) : List Note := if (l.any fun t => decide (t.1 = m)) = true then l.map fun t => if t.1 = m then (t.1, w, e) else t else l ++ [(m, w, e)]
def getN (l : List Note) (m : Mark) : Option (Int × Int) := (l.find? fun t => decide (t.1 = m)).map (·.2)
def dropN (l : List Note) (m : Mark) : List Note := l.filter fun t => decide (t.1 ≠ m)
def setI (f : Int → List Mark) (i : Int) (l : List Mark) : Int → List Mark := fun j => if j = i then l else f j
inductive Msg where
  | news (s : Int) (ends : List (Mark × Int)) (backs : List Mark)
  | reply (s : Int) (needless backs wanted : List Mark)
  | notes (s : Int) (handed : List Note)
  deriving Inhabited
structure Hs where
  num : Int
  many : Int
  day : Int
  next : Int
  copies : Int
  tied : List Int
  came : List Mark
  there : List Note
  back : List Mark
  sett : Int → List Mark
  awar : Int → List Mark
  deriving Inhabited
namespace Hs
def new (number many : Int) : Hs := ⟨number, many, 0, 0, 0, [], [], [], [], fun _ => [], fun _ => []⟩
def tie (s : Hs) (o : Int) : Hs := { s with tied := if o ∈ s.tied then s.tied else s.tied ++ [o] }
def untie (s : Hs) (o : Int) : Hs := { s with tied := s.tied.filter fun k => decide (k ≠ o) }
def setDay (s : Hs) (d : Int) : Hs := { s with day := d, there := s.there.filter fun t => decide (d < t.2.2) }
def take (s : Hs) (m : Mark) (w e : Int) : Hs := { s with came := ins s.came m, there := putN s.there m w e }
def drop (s : Hs) (m : Mark) : Hs := { s with back := ins s.back m, there := dropN s.there m }
def barred (s : Hs) (m : Mark) (e : Int) : Bool := decide (e ≤ s.day) || decide (m ∈ s.back)
def has (s : Hs) (m : Mark) : Bool := (getN s.there m).isSome
def own (s : Hs) (m : Mark) : Bool := decide (m.1 = s.num) && decide (0 ≤ m.2) && decide (m.2 < s.next)
def writeMark (s : Hs) : Mark := (s.num, s.next)
def write (s : Hs) (w l : Int) : Hs := ({ s with next := s.next + 1 } : Hs).take s.writeMark w (s.day + l)
def callBack (s : Hs) (m : Mark) : Hs := if s.has m = true then s.drop m else s
def ends (s : Hs) (o : Int) : List (Mark × Int) := (s.there.filter fun t => decide (t.1 ∉ s.sett o)).map fun t => (t.1, t.2.2)
def backs (s : Hs) (o : Int) : List Mark := s.back.filter fun m => decide (m ∉ s.awar o)
def tell (s : Hs) (o : Int) : List (Int × Msg) := if s.ends o = [] ∧ s.backs o = [] then [] else [(o, .news s.num (s.ends o) (s.backs o))]
def letters (s : Hs) (ts : List Int) : List (Int × Msg) := ts.flatMap s.tell
def aware1 (s : Hs) (o : Int) (m : Mark) : Hs := { s with awar := setI s.awar o (ins (s.awar o) m) }
def settle1 (s : Hs) (o : Int) (m : Mark) : Hs := { s with sett := setI s.sett o (ins (s.sett o) m) }
def newsBack (o : Int) (s : Hs) (m : Mark) : Hs := (s.aware1 o m).drop m
def dull (s : Hs) (p : Mark × Int) : Bool := decide (p.1 ∈ s.came) || s.barred p.1 p.2
def hearNews (s : Hs) (o : Int) (es : List (Mark × Int)) (bs : List Mark) : Hs × Msg :=
  let s1 := bs.foldl (newsBack o) s
  (es.foldl (fun s p => s.settle1 o p.1) s1, .reply s.num ((es.filter s1.dull).map (·.1)) bs ((es.filter fun p => !s1.dull p).map (·.1)))
def heard (s : Hs) (o : Int) (nl bs : List Mark) : Hs := bs.foldl (fun s m => s.aware1 o m) (nl.foldl (fun s m => s.settle1 o m) s)
def handed1 (s : Hs) (o : Int) (m : Mark) : List Note := match getN s.there m with
  | some v => if m ∈ s.sett o then [] else [(m, v)]
  | none => []
def handed (s : Hs) (o : Int) (ws : List Mark) : List Note := ws.flatMap (s.handed1 o)
def hearReply (s : Hs) (o : Int) (nl bs ws : List Mark) : Hs × Option Msg :=
  let s1 := s.heard o nl bs
  (s1, if s1.handed o ws = [] then none else some (.notes s.num (s1.handed o ws)))
def takeNote (s : Hs) (t : Note) : Hs := if s.barred t.1 t.2.2 = true then s else if t.1 ∈ s.came then { s with copies := s.copies + 1 } else ({ s with copies := s.copies + 1 } : Hs).take t.1 t.2.1 t.2.2
def hearNotes (s : Hs) (ts : List Note) : Hs × Msg := (ts.foldl takeNote s, .reply s.num (ts.map (·.1)) [] [])
def answer (s : Hs) (o : Int) (a : Option Msg) : List (Int × Msg) := match a with
  | some m => if o ∈ s.tied then [(o, m)] else []
  | none => []
def hear (s : Hs) (a : Msg) : Hs × List (Int × Msg) := match a with
  | .news o es bs => ((s.hearNews o es bs).1, (s.hearNews o es bs).1.answer o (some (s.hearNews o es bs).2))
  | .reply o nl bs ws => ((s.hearReply o nl bs ws).1, (s.hearReply o nl bs ws).1.answer o (s.hearReply o nl bs ws).2)
  | .notes o ts => ((s.hearNotes ts).1, (s.hearNotes ts).1.answer o (some (s.hearNotes ts).2))
end Hs
end NF
set_option linter.all false
namespace NF
theorem mem_ins {l : List Mark} {x y : Mark} : y ∈ ins l x ↔ y ∈ l ∨ y = x := by
  unfold ins
  split
  · rename_i h
    constructor
    · exact .inl
    · rintro (h1 | rfl)
      · exact h1
      · exact h
  · simp
theorem ins_old {l : List Mark} {x : Mark} (h : x ∈ l) : ins l x = l := if_pos h
theorem ins_new {l : List Mark} {x : Mark} (h : x ∉ l) : ins l x = l ++ [x] := if_neg h
theorem ins_nodup {l : List Mark} {x : Mark} (h : l.Nodup) : (ins l x).Nodup := by
  unfold ins
  split
  · exact h
  · rename_i hx
    exact List.nodup_append.mpr ⟨h, by simp, fun a ha b hb => by
      rw [List.mem_singleton] at hb
      subst hb
      exact fun e => hx (e ▸ ha)⟩
def mks (l : List Note) : List Mark := l.map (·.1)
theorem mem_mks {l : List Note} {m : Mark} : m ∈ mks l ↔ ∃ v, (m, v) ∈ l := by
  unfold mks
  rw [List.mem_map]
  constructor
  · rintro ⟨⟨a, v⟩, h, rfl⟩
    exact ⟨v, h⟩
  · rintro ⟨v, h⟩
    exact ⟨_, h, rfl⟩
theorem putN_new {l : List Note} {m : Mark} {w e : Int} (h : m ∉ mks l) : putN l m w e = l ++ [(m, w, e)] := by
  unfold putN
  rw [if_neg]
  intro z
  rw [List.any_eq_true] at z
  obtain ⟨t, ht, h1⟩ := z
  rw [decide_eq_true_eq] at h1
  exact h (h1 ▸ List.mem_map_of_mem ht)
theorem getN_some {l : List Note} {m : Mark} {v : Int × Int} (h : getN l m = some v) : (m, v) ∈ l := by
  unfold getN at h
  obtain ⟨t, h1, rfl⟩ := Option.map_eq_some_iff.mp h
  have := List.find?_some h1
  rw [decide_eq_true_eq] at this
  subst this
  exact List.mem_of_find?_eq_some h1
theorem getN_none {l : List Note} {m : Mark} : getN l m = none ↔ m ∉ mks l := by
  unfold getN
  rw [Option.map_eq_none_iff, List.find?_eq_none]
  constructor
  · intro h z
    obtain ⟨v, hv⟩ := mem_mks.mp z
    exact h _ hv (by simp)
  · intro h t ht z
    rw [decide_eq_true_eq] at z
    exact h (z ▸ List.mem_map_of_mem ht)
theorem getN_isSome {l : List Note} {m : Mark} : (getN l m).isSome = true ↔ m ∈ mks l := by
  rw [Option.isSome_iff_ne_none, ne_eq, getN_none, Classical.not_not]
theorem getN_of {l : List Note} (hn : (mks l).Nodup) {m : Mark} {v : Int × Int} (h : (m, v) ∈ l) : getN l m = some v := by
  induction l with
  | nil => simp at h
  | cons t l ih =>
    unfold getN
    rcases List.mem_cons.mp h with rfl | h1
    · rw [List.find?_cons_of_pos (by simp)]; rfl
    · have hn' := List.nodup_cons.mp (show (t.1 :: mks l).Nodup from hn)
      have ne : t.1 ≠ m := fun e => hn'.1 (e ▸ List.mem_map_of_mem h1)
      rw [List.find?_cons_of_neg (by simpa using ne)]
      exact ih hn'.2 h1
theorem mem_dropN {l : List Note} {m : Mark} {t : Note} : t ∈ dropN l m ↔ t ∈ l ∧ t.1 ≠ m := by
  unfold dropN
  rw [List.mem_filter, decide_eq_true_eq]
theorem mks_filter {l : List Note} {p : Note → Bool} (h : (mks l).Nodup) : (mks (l.filter p)).Nodup := by
  unfold mks at *
  exact List.Pairwise.sublist (List.Sublist.map _ List.filter_sublist) h
namespace Hs
theorem has_iff {s : Hs} {m : Mark} : s.has m = true ↔ m ∈ mks s.there := getN_isSome
theorem barred_iff {s : Hs} {m : Mark} {e : Int} : s.barred m e = true ↔ e ≤ s.day ∨ m ∈ s.back := by
  unfold barred
  rw [Bool.or_eq_true, decide_eq_true_eq, decide_eq_true_eq]
@[simp] theorem aware1_num (s : Hs) (o : Int) (m : Mark) : (s.aware1 o m).num = s.num := rfl
@[simp] theorem drop_num (s : Hs) (m : Mark) : (s.drop m).num = s.num := rfl
theorem foldl_keep {α β : Type} (f : Hs → α → Hs) (g : Hs → β) (h : ∀ s a, g (f s a) = g s) (l : List α) (s : Hs) : g (l.foldl f s) = g s := by
  induction l generalizing s with
  | nil => rfl
  | cons a l ih => rw [List.foldl_cons, ih, h]
end Hs
structure Reg where
  wr : Mark → Option (Int × Int)
  cl : Mark → Prop
structure Ok (R : Reg) (s : Hs) : Prop where
  cnd : s.came.Nodup
  tnd : (mks s.there).Nodup
  tc : ∀ t ∈ s.there, t.1 ∈ s.came
  tw : ∀ t ∈ s.there, R.wr t.1 = some t.2
  te : ∀ t ∈ s.there, s.day < t.2.2
  tb : ∀ t ∈ s.there, t.1 ∉ s.back
  cw : ∀ m ∈ s.came, (R.wr m).isSome = true
  bc : ∀ m ∈ s.back, R.cl m
  ct : ∀ m ∈ s.came, ∀ v, R.wr m = some v → m ∈ mks s.there ∨ m ∈ s.back ∨ v.2 ≤ s.day
  ow : ∀ m v, R.wr m = some v → m.1 = s.num → 0 ≤ m.2 ∧ m.2 < s.next
  cr : ∀ m, R.cl m → (R.wr m).isSome = true
  bnd : s.back.Nodup
  dn : 0 ≤ s.next
def MsgOk (R : Reg) : Msg → Prop
  | .news _ es bs => (∀ p ∈ es, ∃ w, R.wr p.1 = some (w, p.2)) ∧ ∀ m ∈ bs, R.cl m
  | .reply _ _ _ _ => True
  | .notes _ ts => ∀ t ∈ ts, R.wr t.1 = some t.2
structure Step (R : Reg) (s s' : Hs) : Prop where
  ok : Ok R s'
  num : s'.num = s.num
  many : s'.many = s.many
  day : s'.day = s.day
  next : s'.next = s.next
  tied : s'.tied = s.tied
  came : ∃ fr, s'.came = s.came ++ fr
  there : ∀ m ∈ mks s'.there, m ∈ mks s.there ∨ m ∈ s'.came.drop s.came.length
  gone : ∀ m ∈ mks s.there, m ∈ mks s'.there ∨ m ∈ s'.back
  back : ∀ m ∈ s.back, m ∈ s'.back
  sett : ∀ o, ∀ m ∈ s.sett o, m ∈ s'.sett o
  awar : ∀ o, ∀ m ∈ s.awar o, m ∈ s'.awar o
  cop : s.copies ≤ s'.copies
theorem Step.refl {R : Reg} {s : Hs} (h : Ok R s) : Step R s s := ⟨h, rfl, rfl, rfl, rfl, rfl, ⟨[], by simp⟩, fun _ h => .inl h, fun _ h => .inl h, fun _ h => h, fun _ _ h => h, fun _ _ h => h, Int.le_refl _⟩
theorem Step.cm {R : Reg} {s s' : Hs} (a : Step R s s') : ∀ m ∈ s.came, m ∈ s'.came := fun m hm => by
  obtain ⟨fr, e⟩ := a.came
  rw [e]
  exact List.mem_append_left _ hm
end NF
set_option linter.all false
namespace NF
theorem Step.trans {R : Reg} {s s1 s2 : Hs} (a : Step R s s1) (b : Step R s1 s2) : Step R s s2 where
  ok := b.ok
  num := b.num.trans a.num
  many := b.many.trans a.many
  day := b.day.trans a.day
  next := b.next.trans a.next
  tied := b.tied.trans a.tied
  came := by
    obtain ⟨f1, e1⟩ := a.came
    obtain ⟨f2, e2⟩ := b.came
    exact ⟨f1 ++ f2, by rw [e2, e1, List.append_assoc]⟩
  there := fun m hm => by
    obtain ⟨f1, e1⟩ := a.came
    obtain ⟨f2, e2⟩ := b.came
    rcases b.there m hm with h | h
    · rcases a.there m h with h | h
      · exact .inl h
      · right
        rw [e1, List.drop_left] at h
        rw [e2, e1, List.append_assoc, List.drop_left]
        exact List.mem_append_left _ h
    · right
      rw [e2, List.drop_left] at h
      rw [e2, e1, List.append_assoc, List.drop_left]
      exact List.mem_append_right _ h
  gone := fun m hm => by
    rcases a.gone m hm with h | h
    · exact b.gone m h
    · exact .inr (b.back m h)
  back := fun m hm => b.back m (a.back m hm)
  sett := fun o m hm => b.sett o m (a.sett o m hm)
  awar := fun o m hm => b.awar o m (a.awar o m hm)
  cop := Int.le_trans a.cop b.cop
theorem mem_setI {f : Int → List Mark} {i j : Int} {m x : Mark} (h : m ∈ f j) : m ∈ setI f i (ins (f i) x) j := by
  unfold setI
  split
  · rename_i e
    subst e
    exact mem_ins.mpr (.inl h)
  · exact h
theorem mem_setI_iff {f : Int → List Mark} {i j : Int} {m x : Mark} : m ∈ setI f i (ins (f i) x) j ↔ m ∈ f j ∨ (j = i ∧ m = x) := by
  unfold setI
  split
  · rename_i e
    subst e
    rw [mem_ins]
    simp
  · rename_i e
    simp [e]
theorem step_aware {R : Reg} {s : Hs} (h : Ok R s) (o : Int) (m : Mark) : Step R s (s.aware1 o m) :=
  { Step.refl h with ok := { h with }, awar := fun _ _ hm => mem_setI hm }
theorem step_settle {R : Reg} {s : Hs} (h : Ok R s) (o : Int) (m : Mark) : Step R s (s.settle1 o m) :=
  { Step.refl h with ok := { h with }, sett := fun _ _ hm => mem_setI hm }
theorem mks_dropN {l : List Note} {m k : Mark} : k ∈ mks (dropN l m) ↔ k ∈ mks l ∧ k ≠ m := by
  rw [mem_mks, mem_mks]
  constructor
  · rintro ⟨v, hv⟩
    obtain ⟨h1, h2⟩ := mem_dropN.mp hv
    exact ⟨⟨v, h1⟩, h2⟩
  · rintro ⟨⟨v, h1⟩, h2⟩
    exact ⟨v, mem_dropN.mpr ⟨h1, h2⟩⟩
theorem ok_drop {R : Reg} {s : Hs} (h : Ok R s) {m : Mark} (hm : R.cl m) : Ok R (s.drop m) :=
  { h with
    tnd := mks_filter h.tnd
    tc := fun t ht => h.tc t (mem_dropN.mp ht).1
    tw := fun t ht => h.tw t (mem_dropN.mp ht).1
    te := fun t ht => h.te t (mem_dropN.mp ht).1
    tb := fun t ht => by
      obtain ⟨h1, h2⟩ := mem_dropN.mp ht
      intro z
      rcases mem_ins.mp z with z | z
      · exact h.tb t h1 z
      · exact h2 z
    bc := fun k hk => by
      rcases mem_ins.mp hk with z | z
      · exact h.bc k z
      · exact z ▸ hm
    ct := fun k hk v hv => by
      rcases h.ct k hk v hv with z | z | z
      · by_cases e : k = m
        · exact .inr (.inl (mem_ins.mpr (.inr e)))
        · exact .inl (mks_dropN.mpr ⟨z, e⟩)
      · exact .inr (.inl (mem_ins.mpr (.inl z)))
      · exact .inr (.inr z)
    bnd := ins_nodup h.bnd }
theorem step_drop {R : Reg} {s : Hs} (h : Ok R s) {m : Mark} (hm : R.cl m) : Step R s (s.drop m) :=
  { Step.refl h with
    ok := ok_drop h hm
    there := fun k hk => .inl (mks_dropN.mp hk).1
    gone := fun k hk => by
      by_cases e : k = m
      · exact .inr (mem_ins.mpr (.inr e))
      · exact .inl (mks_dropN.mpr ⟨hk, e⟩)
    back := fun k hk => mem_ins.mpr (.inl hk) }
theorem step_fold {R : Reg} {α : Type} {f : Hs → α → Hs} {l : List α} (hf : ∀ s, ∀ a ∈ l, Ok R s → Step R s (f s a)) {s : Hs} (h : Ok R s) : Step R s (l.foldl f s) := by
  induction l generalizing s with
  | nil => exact Step.refl h
  | cons a l ih =>
    have h1 := hf s a (by simp) h
    exact h1.trans (ih (fun s b hb => hf s b (by simp [hb])) h1.ok)
theorem step_newsBack {R : Reg} {s : Hs} (h : Ok R s) (o : Int) {m : Mark} (hm : R.cl m) : Step R s (s.newsBack o m) :=
  (step_aware h o m).trans (step_drop (step_aware h o m).ok hm)
theorem step_hearNews {R : Reg} {s : Hs} (h : Ok R s) (o : Int) (es : List (Mark × Int)) {bs : List Mark} (hb : ∀ m ∈ bs, R.cl m) : Step R s (s.hearNews o es bs).1 := by
  have h1 := step_fold (f := Hs.newsBack o) (l := bs) (fun s m hm hs => step_newsBack hs o (hb m hm)) h
  exact h1.trans (step_fold (fun s p _ hs => step_settle hs o p.1) h1.ok)
theorem step_heard {R : Reg} {s : Hs} (h : Ok R s) (o : Int) (nl bs : List Mark) : Step R s (s.heard o nl bs) := by
  have h1 := step_fold (f := fun s m => s.settle1 o m) (l := nl) (fun s m _ hs => step_settle hs o m) h
  exact h1.trans (step_fold (fun s m _ hs => step_aware hs o m) h1.ok)
theorem mks_put {l : List Note} {m k : Mark} {w e : Int} (h : m ∉ mks l) : k ∈ mks (putN l m w e) ↔ k ∈ mks l ∨ k = m := by
  rw [putN_new h]
  unfold mks
  rw [List.map_append, List.mem_append]
  simp
theorem not_there {R : Reg} {s : Hs} (h : Ok R s) {m : Mark} (hm : m ∉ s.came) : m ∉ mks s.there := fun z => by
  obtain ⟨v, hv⟩ := mem_mks.mp z
  exact hm (h.tc _ hv)
theorem ok_take {R : Reg} {s : Hs} (h : Ok R s) {m : Mark} {w e : Int} (hm : m ∉ s.came) (hw : R.wr m = some (w, e)) (he : s.day < e) (hb : m ∉ s.back) : Ok R (s.take m w e) := by
  have hn := not_there h hm
  have e1 : (s.take m w e).there = s.there ++ [(m, w, e)] := putN_new hn
  have e2 : (s.take m w e).came = s.came ++ [m] := ins_new hm
  have mt : ∀ t ∈ (s.take m w e).there, t ∈ s.there ∨ t = (m, w, e) := fun t ht => by
    rw [e1] at ht
    simpa using ht
  exact { h with
    cnd := by rw [e2, ← ins_new hm]; exact ins_nodup h.cnd
    tnd := by
      rw [e1]
      unfold mks at hn ⊢
      rw [List.map_append]
      exact List.nodup_append.mpr ⟨h.tnd, by simp, fun a ha b hb => by
        simp only [List.map_cons, List.map_nil, List.mem_singleton] at hb
        subst hb
        exact fun z => hn (z ▸ ha)⟩
    tc := fun t ht => by
      rw [e2]
      rcases mt t ht with z | z
      · exact List.mem_append_left _ (h.tc t z)
      · simp [z]
    tw := fun t ht => by
      rcases mt t ht with z | z
      · exact h.tw t z
      · rw [z]; exact hw
    te := fun t ht => by
      rcases mt t ht with z | z
      · exact h.te t z
      · rw [z]; exact he
    tb := fun t ht => by
      rcases mt t ht with z | z
      · exact h.tb t z
      · rw [z]; exact hb
    cw := fun k hk => by
      rw [e2] at hk
      rcases List.mem_append.mp hk with z | z
      · exact h.cw k z
      · rw [List.mem_singleton.mp z, hw]; rfl
    ct := fun k hk v hv => by
      rw [e2] at hk
      rcases List.mem_append.mp hk with z | z
      · rcases h.ct k z v hv with z | z
        · exact .inl ((mks_put hn).mpr (.inl z))
        · exact .inr z
      · exact .inl ((mks_put hn).mpr (.inr (List.mem_singleton.mp z))) }
theorem step_take {R : Reg} {s : Hs} (h : Ok R s) {m : Mark} {w e : Int} (hm : m ∉ s.came) (hw : R.wr m = some (w, e)) (he : s.day < e) (hb : m ∉ s.back) : Step R s (s.take m w e) := by
  have hn := not_there h hm
  exact { Step.refl h with
    ok := ok_take h hm hw he hb
    came := ⟨[m], ins_new hm⟩
    there := fun k hk => by
      rcases (mks_put hn).mp hk with z | z
      · exact .inl z
      · right
        show k ∈ (ins s.came m).drop _
        rw [ins_new hm, List.drop_left]
        simp [z]
    gone := fun k hk => .inl ((mks_put hn).mpr (.inl hk)) }
theorem step_cop {R : Reg} {s : Hs} (h : Ok R s) : Step R s { s with copies := s.copies + 1 } :=
  { Step.refl h with ok := { h with }, cop := by show s.copies ≤ s.copies + 1; omega }
theorem step_takeNote {R : Reg} {s : Hs} (h : Ok R s) {t : Note} (ht : R.wr t.1 = some t.2) : Step R s (s.takeNote t) := by
  unfold Hs.takeNote
  split
  · exact Step.refl h
  · rename_i hb
    split
    · exact step_cop h
    · rename_i hc
      have hb' : ¬ (t.2.2 ≤ s.day ∨ t.1 ∈ s.back) := fun z => hb (Hs.barred_iff.mpr z)
      exact (step_cop h).trans (step_take (step_cop h).ok hc ht (by
        have : ¬ t.2.2 ≤ s.day := fun z => hb' (.inl z)
        show s.day < t.2.2
        omega) fun z => hb' (.inr z))
theorem step_hearNotes {R : Reg} {s : Hs} (h : Ok R s) {ts : List Note} (ht : ∀ t ∈ ts, R.wr t.1 = some t.2) : Step R s (s.hearNotes ts).1 :=
  step_fold (fun s t hm hs => step_takeNote hs (ht t hm)) h
theorem step_hear {R : Reg} {s : Hs} (h : Ok R s) {a : Msg} (ha : MsgOk R a) : Step R s (s.hear a).1 := by
  cases a with
  | news o es bs => exact step_hearNews h o es ha.2
  | reply o nl bs ws => exact step_heard h o nl bs
  | notes o ts => exact step_hearNotes h ha
theorem fresh_takeNote {R : Reg} {s : Hs} (h : Ok R s) {t : Note} : (∀ m ∈ mks s.there, m ∈ mks (s.takeNote t).there) ∧ ∀ m ∈ (s.takeNote t).came, m ∈ s.came ∨ m ∈ mks (s.takeNote t).there := by
  unfold Hs.takeNote
  split
  · exact ⟨fun _ h => h, fun _ h => .inl h⟩
  · split
    · exact ⟨fun _ h => h, fun _ h => .inl h⟩
    · rename_i hc
      have hn := not_there h hc
      refine ⟨fun m hm => (mks_put hn).mpr (.inl hm), fun m hm => ?_⟩
      rcases mem_ins.mp hm with z | z
      · exact .inl z
      · exact .inr ((mks_put hn).mpr (.inr z))
theorem fresh_notes {R : Reg} {ts : List Note} {s : Hs} (h : Ok R s) (ht : ∀ t ∈ ts, R.wr t.1 = some t.2) : (∀ m ∈ mks s.there, m ∈ mks (ts.foldl Hs.takeNote s).there) ∧ ∀ m ∈ (ts.foldl Hs.takeNote s).came, m ∈ s.came ∨ m ∈ mks (ts.foldl Hs.takeNote s).there := by
  induction ts generalizing s with
  | nil => exact ⟨fun _ h => h, fun _ h => .inl h⟩
  | cons t ts ih =>
    have h1 := step_takeNote h (ht t (by simp))
    have h2 := ih h1.ok fun u hu => ht u (by simp [hu])
    have h3 := fresh_takeNote h (t := t)
    refine ⟨fun m hm => h2.1 m (h3.1 m hm), fun m hm => ?_⟩
    rcases h2.2 m hm with z | z
    · rcases h3.2 m z with z | z
      · exact .inl z
      · exact .inr (h2.1 m z)
    · exact .inr z
theorem came_keep {s : Hs} {o : Int} {es : List (Mark × Int)} {bs : List Mark} : (s.hearNews o es bs).1.came = s.came := by
  show (es.foldl (fun s (p : Mark × Int) => s.settle1 o p.1) (bs.foldl (Hs.newsBack o) s)).came = _
  rw [Hs.foldl_keep (fun s (p : Mark × Int) => s.settle1 o p.1) (·.came) (fun _ _ => rfl), Hs.foldl_keep (Hs.newsBack o) (·.came) (fun _ _ => rfl)]
theorem came_keep_heard {s : Hs} {o : Int} {nl bs : List Mark} : (s.heard o nl bs).came = s.came := by
  unfold Hs.heard
  rw [Hs.foldl_keep (fun s (m : Mark) => s.aware1 o m) (·.came) (fun _ _ => rfl), Hs.foldl_keep (fun s (m : Mark) => s.settle1 o m) (·.came) (fun _ _ => rfl)]
theorem fresh_hear {R : Reg} {s : Hs} (h : Ok R s) {a : Msg} (ha : MsgOk R a) : ∀ m ∈ (s.hear a).1.came, m ∈ s.came ∨ m ∈ mks (s.hear a).1.there := by
  cases a with
  | news o es bs =>
    intro m hm
    have e : (s.hear (.news o es bs)).1.came = s.came := came_keep
    rw [e] at hm
    exact .inl hm
  | reply o nl bs ws =>
    intro m hm
    have e : (s.hear (.reply o nl bs ws)).1.came = s.came := came_keep_heard
    rw [e] at hm
    exact .inl hm
  | notes o ts => exact (fresh_notes h ha).2
theorem ends_ok {R : Reg} {s : Hs} (h : Ok R s) (o : Int) : ∀ p ∈ s.ends o, ∃ w, R.wr p.1 = some (w, p.2) := fun p hp => by
  unfold Hs.ends at hp
  obtain ⟨t, ht, rfl⟩ := List.mem_map.mp hp
  exact ⟨t.2.1, h.tw t (List.mem_filter.mp ht).1⟩
theorem backs_ok {R : Reg} {s : Hs} (h : Ok R s) (o : Int) : ∀ m ∈ s.backs o, R.cl m := fun m hm => h.bc m (List.mem_filter.mp hm).1
theorem tell_ok {R : Reg} {s : Hs} (h : Ok R s) (o : Int) : ∀ l ∈ s.tell o, MsgOk R l.2 := fun l hl => by
  unfold Hs.tell at hl
  split at hl
  · simp at hl
  · rw [List.mem_singleton] at hl
    subst hl
    exact ⟨ends_ok h o, backs_ok h o⟩
theorem letters_ok {R : Reg} {s : Hs} (h : Ok R s) (ts : List Int) : ∀ l ∈ s.letters ts, MsgOk R l.2 := fun l hl => by
  obtain ⟨o, _, ho⟩ := List.mem_flatMap.mp hl
  exact tell_ok h o l ho
theorem answer_mem {s : Hs} {o : Int} {a : Option Msg} {l : Int × Msg} (h : l ∈ s.answer o a) : l.1 = o ∧ a = some l.2 ∧ o ∈ s.tied := by
  unfold Hs.answer at h
  split at h
  · split at h
    · rename_i m hm
      rw [List.mem_singleton] at h
      subst h
      exact ⟨rfl, rfl, hm⟩
    · simp at h
  · simp at h
theorem handed_mem {s : Hs} {o : Int} {ws : List Mark} {t : Note} (h : t ∈ s.handed o ws) : t.1 ∈ ws ∧ t ∈ s.there ∧ t.1 ∉ s.sett o := by
  unfold Hs.handed at h
  obtain ⟨m, hm, h1⟩ := List.mem_flatMap.mp h
  unfold Hs.handed1 at h1
  split at h1
  · rename_i v hv
    split at h1
    · simp at h1
    · rename_i hs
      rw [List.mem_singleton] at h1
      subst h1
      exact ⟨hm, getN_some hv, hs⟩
  · simp at h1
theorem hear_ok {R : Reg} {s : Hs} (h : Ok R s) {a : Msg} (ha : MsgOk R a) : ∀ l ∈ (s.hear a).2, MsgOk R l.2 := fun l hl => by
  have hs := step_hear h ha
  cases a with
  | news o es bs =>
    obtain ⟨_, h2, _⟩ := answer_mem (s := (s.hearNews o es bs).1) (o := o) (a := some (s.hearNews o es bs).2) hl
    have := Option.some.inj h2
    rw [← this]
    trivial
  | reply o nl bs ws =>
    obtain ⟨_, h2, _⟩ := answer_mem hl
    unfold Hs.hearReply at h2
    simp only at h2
    split at h2
    · cases h2
    · have := Option.some.inj h2
      rw [← this]
      intro t ht
      obtain ⟨_, h3, _⟩ := handed_mem ht
      exact hs.ok.tw t h3
  | notes o ts =>
    obtain ⟨_, h2, _⟩ := answer_mem (s := (s.hearNotes ts).1) (o := o) (a := some (s.hearNotes ts).2) hl
    have := Option.some.inj h2
    rw [← this]
    trivial
theorem ok_mono {R R' : Reg} {s : Hs} (h : Ok R s) (h1 : ∀ m v, R.wr m = some v → R'.wr m = some v) (h2 : ∀ m, R.cl m → R'.cl m) (h3 : ∀ m v, R'.wr m = some v → m.1 = s.num → 0 ≤ m.2 ∧ m.2 < s.next) (h4 : ∀ m, R'.cl m → (R'.wr m).isSome = true) : Ok R' s :=
  { h with
    tw := fun t ht => h1 _ _ (h.tw t ht)
    cw := fun m hm => by
      obtain ⟨v, hv⟩ := Option.isSome_iff_exists.mp (h.cw m hm)
      rw [h1 m v hv]; rfl
    bc := fun m hm => h2 m (h.bc m hm)
    ct := fun m hm v hv => by
      obtain ⟨v', hv'⟩ := Option.isSome_iff_exists.mp (h.cw m hm)
      have := h1 m v' hv'
      rw [this] at hv
      obtain rfl := Option.some.inj hv
      exact h.ct m hm v' hv'
    ow := h3
    cr := h4 }
theorem msg_mono {R R' : Reg} {a : Msg} (h : MsgOk R a) (h1 : ∀ m v, R.wr m = some v → R'.wr m = some v) (h2 : ∀ m, R.cl m → R'.cl m) : MsgOk R' a := by
  cases a with
  | news o es bs => exact ⟨fun p hp => by obtain ⟨w, hw⟩ := h.1 p hp; exact ⟨w, h1 _ _ hw⟩, fun m hm => h2 m (h.2 m hm)⟩
  | reply o nl bs ws => trivial
  | notes o ts => exact fun t ht => h1 _ _ (h t ht)
def Reg.put (R : Reg) (m : Mark) (v : Int × Int) : Reg := { R with wr := fun k => if k = m then some v else R.wr k }
def Reg.call (R : Reg) (m : Mark) : Reg := { R with cl := fun k => R.cl k ∨ k = m }
theorem own_free {R : Reg} {s : Hs} (h : Ok R s) : R.wr s.writeMark = none := by
  cases q : R.wr s.writeMark with
  | none => rfl
  | some v =>
    have := (h.ow _ v q rfl).2
    simp [Hs.writeMark] at this
theorem own_new {R : Reg} {s : Hs} (h : Ok R s) : s.writeMark ∉ s.came := fun z => by
  have := h.cw _ z
  rw [own_free h] at this
  cases this
theorem put_old {R : Reg} {m k : Mark} {v u : Int × Int} (h : R.wr m = none) (hk : R.wr k = some u) : (R.put m v).wr k = some u := by
  show (if k = m then some v else R.wr k) = _
  rw [if_neg, hk]
  rintro rfl
  rw [h] at hk
  cases hk
theorem ok_write {R : Reg} {s : Hs} (h : Ok R s) {w l : Int} (hl : 1 ≤ l) : Ok (R.put s.writeMark (w, s.day + l)) (s.write w l) := by
  have hf := own_free h
  have h0 : Ok (R.put s.writeMark (w, s.day + l)) { s with next := s.next + 1 } := by
    have := ok_mono (s := { s with next := s.next + 1 }) (R := R) (R' := R.put s.writeMark (w, s.day + l)) { h with ow := fun m v hv hm => by have := h.ow m v hv hm; exact ⟨this.1, by show m.2 < s.next + 1; omega⟩, dn := by have := h.dn; show 0 ≤ s.next + 1; omega } (fun m v => put_old hf) (fun m z => z) (fun m v hv hm => ?_) fun m hm => ?_
    · exact this
    · have hv' : (if m = s.writeMark then some (w, s.day + l) else R.wr m) = some v := hv
      split at hv'
      · rename_i e
        have := h.dn
        subst e
        exact ⟨by show 0 ≤ s.next; omega, by show s.next < s.next + 1; omega⟩
      · have := h.ow m v hv' hm
        exact ⟨this.1, by show m.2 < s.next + 1; omega⟩
    · obtain ⟨v, hv⟩ := Option.isSome_iff_exists.mp (h.cr m hm)
      rw [put_old hf hv]; rfl
  refine ok_take h0 (own_new h) (if_pos rfl) (by show s.day < s.day + l; omega) fun z => ?_
  have := h.cr _ (h.bc _ z)
  rw [hf] at this
  cases this
theorem ok_write_other {R : Reg} {s u : Hs} (h : Ok R s) (g : Ok R u) (hn : s.num ≠ u.num) {v : Int × Int} : Ok (R.put s.writeMark v) u :=
  ok_mono g (fun m v => put_old (own_free h)) (fun m z => z) (fun m x hx hm => by
    have hx' : (if m = s.writeMark then some v else R.wr m) = some x := hx
    split at hx'
    · rename_i e
      subst e
      exact absurd hm hn
    · exact g.ow m x hx' hm) fun m hm => by
      obtain ⟨x, hx⟩ := Option.isSome_iff_exists.mp (g.cr m hm)
      rw [put_old (own_free h) hx]; rfl
theorem ok_call {R : Reg} {s : Hs} (h : Ok R s) {m : Mark} (hm : (R.wr m).isSome = true) : Ok (R.call m) s :=
  ok_mono h (fun _ _ z => z) (fun _ z => .inl z) h.ow fun k hk => by
    rcases hk with hk | rfl
    · exact h.cr k hk
    · exact hm
theorem step_callBack {R : Reg} {s : Hs} (h : Ok R s) {m : Mark} (hm : s.has m = true → R.cl m) : Step R s (s.callBack m) := by
  unfold Hs.callBack
  split
  · rename_i hh
    exact step_drop h (hm hh)
  · exact Step.refl h
theorem ok_day {R : Reg} {s : Hs} (h : Ok R s) {d : Int} (hd : s.day ≤ d) : Ok R (s.setDay d) :=
  { h with
    tnd := mks_filter h.tnd
    tc := fun t ht => h.tc t (List.mem_filter.mp ht).1
    tw := fun t ht => h.tw t (List.mem_filter.mp ht).1
    te := fun t ht => of_decide_eq_true (List.mem_filter.mp ht).2
    tb := fun t ht => h.tb t (List.mem_filter.mp ht).1
    ct := fun m hm v hv => by
      rcases h.ct m hm v hv with z | z | z
      · obtain ⟨u, hu⟩ := mem_mks.mp z
        have e := h.tw _ hu
        rw [hv] at e
        obtain rfl := Option.some.inj e
        by_cases c : d < v.2
        · exact .inl (mem_mks.mpr ⟨v, List.mem_filter.mpr ⟨hu, by simpa using c⟩⟩)
        · exact .inr (.inr (by show v.2 ≤ d; omega))
      · exact .inr (.inl z)
      · exact .inr (.inr (by show v.2 ≤ d; omega)) }
theorem ok_tie {R : Reg} {s : Hs} (h : Ok R s) (o : Int) : Ok R (s.tie o) := { h with }
theorem ok_untie {R : Reg} {s : Hs} (h : Ok R s) (o : Int) : Ok R (s.untie o) := { h with }
end NF
set_option linter.all false
namespace NF
def Known (R : Reg) (s : Hs) (m : Mark) : Prop := m ∈ s.came ∨ m ∈ s.back ∨ ∃ v, R.wr m = some v ∧ v.2 ≤ s.day
structure Later (R R' : Reg) (s s' : Hs) : Prop where
  wr : ∀ m v, R.wr m = some v → R'.wr m = some v
  came : ∀ m ∈ s.came, m ∈ s'.came
  back : ∀ m ∈ s.back, m ∈ s'.back
  day : s.day ≤ s'.day
theorem Later.refl (R : Reg) (s : Hs) : Later R R s s := ⟨fun _ _ h => h, fun _ h => h, fun _ h => h, Int.le_refl _⟩
theorem Known.later {R R' : Reg} {s s' : Hs} {m : Mark} (h : Known R s m) (l : Later R R' s s') : Known R' s' m := by
  rcases h with h | h | ⟨v, h1, h2⟩
  · exact .inl (l.came m h)
  · exact .inr (.inl (l.back m h))
  · exact .inr (.inr ⟨v, l.wr m v h1, Int.le_trans h2 l.day⟩)
theorem Step.later {R : Reg} {s s' : Hs} (h : Step R s s') : Later R R s s' := ⟨fun _ _ h => h, h.cm, h.back, by rw [h.day]; exact Int.le_refl _⟩
structure One (R : Reg) (n i : Nat) (s : Hs) : Prop where
  ok : Ok R s
  num : s.num = i
  many : s.many = n
  tnd : s.tied.Nodup
  tie : ∀ o ∈ s.tied, 0 ≤ o ∧ o < n ∧ o ≠ i
structure Sys (R : Reg) (hs : List Hs) : Prop where
  one : ∀ i s, hs[i]? = some s → One R hs.length i s
  sv : ∀ (i j : Nat) A B, hs[i]? = some A → hs[j]? = some B → ∀ m ∈ A.sett j, Known R B m
  av : ∀ (i j : Nat) A B, hs[i]? = some A → hs[j]? = some B → ∀ m ∈ A.awar j, m ∈ B.back
def Msg.by : Msg → Int
  | .news s _ _ => s
  | .reply s _ _ _ => s
  | .notes s _ => s
def Says (R : Reg) (s : Hs) : Msg → Prop
  | .news _ es bs => (∀ p ∈ es, Known R s p.1) ∧ ∀ m ∈ bs, m ∈ s.back
  | .reply _ nl bs _ => (∀ m ∈ nl, Known R s m) ∧ ∀ m ∈ bs, m ∈ s.back
  | .notes _ _ => True
structure LetOk (R : Reg) (hs : List Hs) (l : Int × Msg) : Prop where
  msg : MsgOk R l.2
  to : ∃ i : Nat, l.1 = i ∧ i < hs.length
  frm : ∃ (j : Nat) (s : Hs), l.2.by = j ∧ hs[j]? = some s ∧ Says R s l.2
theorem Says.later {R R' : Reg} {s s' : Hs} {a : Msg} (h : Says R s a) (l : Later R R' s s') : Says R' s' a := by
  cases a with
  | news o es bs => exact ⟨fun p hp => (h.1 p hp).later l, fun m hm => l.back m (h.2 m hm)⟩
  | reply o nl bs ws => exact ⟨fun p hp => (h.1 p hp).later l, fun m hm => l.back m (h.2 m hm)⟩
  | notes o ts => trivial
def AllLater (R R' : Reg) (hs hs' : List Hs) : Prop := hs'.length = hs.length ∧ ∀ (i : Nat) (s : Hs), hs[i]? = some s → ∃ s', hs'[i]? = some s' ∧ Later R R' s s'
theorem AllLater.refl (R : Reg) (hs : List Hs) : AllLater R R hs hs := ⟨rfl, fun i s h => ⟨s, h, Later.refl R s⟩⟩
theorem LetOk.later {R R' : Reg} {hs hs' : List Hs} {l : Int × Msg} (h : LetOk R hs l) (a : AllLater R R' hs hs') (h2 : ∀ m v, R.wr m = some v → R'.wr m = some v) (hc : ∀ m, R.cl m → R'.cl m) : LetOk R' hs' l := by
  obtain ⟨i, e, hi⟩ := h.to
  obtain ⟨j, s, e2, hj, hs⟩ := h.frm
  obtain ⟨s', hj', hl⟩ := a.2 j s hj
  exact ⟨msg_mono h.msg h2 hc, ⟨i, e, by rw [a.1]; exact hi⟩, ⟨j, s', e2, hj', hs.later hl⟩⟩
theorem allLater_set {R R' : Reg} {hs : List Hs} {i : Nat} {s s' : Hs} (h : hs[i]? = some s) (l : Later R R' s s') (hw : ∀ m v, R.wr m = some v → R'.wr m = some v) : AllLater R R' hs (hs.set i s') := by
  have hi := (List.getElem?_eq_some_iff.mp h).1
  refine ⟨List.length_set, fun j u hj => ?_⟩
  by_cases e : i = j
  · subst e
    rw [h] at hj
    cases hj
    exact ⟨s', List.getElem?_set_self hi, l⟩
  · exact ⟨u, by rw [List.getElem?_set_ne e]; exact hj, ⟨hw, fun _ h => h, fun _ h => h, Int.le_refl _⟩⟩
theorem set_cases {α : Type} {l : List α} {i j : Nat} {x y : α} (h : (l.set i x)[j]? = some y) : (j = i ∧ y = x) ∨ (j ≠ i ∧ l[j]? = some y) := by
  by_cases e : i = j
  · subst e
    have hl := (List.getElem?_eq_some_iff.mp h).1
    rw [List.length_set] at hl
    rw [List.getElem?_set_self hl] at h
    exact .inl ⟨rfl, (Option.some.inj h).symm⟩
  · rw [List.getElem?_set_ne e] at h
    exact .inr ⟨fun z => e z.symm, h⟩
theorem sys_set {R R' : Reg} {hs : List Hs} {i : Nat} {s s' : Hs} (h : Sys R hs) (hi : hs[i]? = some s) (l : Later R R' s s') (hw : ∀ m v, R.wr m = some v → R'.wr m = some v) (h1 : One R' hs.length i s') (ho : ∀ j u, j ≠ i → hs[j]? = some u → Ok R' u)
    (hse : ∀ (j : Nat) B, hs[j]? = some B → ∀ m ∈ s'.sett j, m ∈ s.sett j ∨ Known R' B m) (haw : ∀ (j : Nat) B, hs[j]? = some B → ∀ m ∈ s'.awar j, m ∈ s.awar j ∨ m ∈ B.back) : Sys R' (hs.set i s') := by
  have al := allLater_set hi l hw
  have lat : ∀ (j : Nat) B, (hs.set i s')[j]? = some B → ∃ B0, hs[j]? = some B0 ∧ Later R R' B0 B := fun j B hB => by
    rcases set_cases hB with ⟨rfl, rfl⟩ | ⟨_, q⟩
    · exact ⟨s, hi, l⟩
    · exact ⟨B, q, ⟨hw, fun _ h => h, fun _ h => h, Int.le_refl _⟩⟩
  refine ⟨fun j u hu => ?_, fun j k A B hA hB m hm => ?_, fun j k A B hA hB m hm => ?_⟩
  · rw [List.length_set]
    rcases set_cases hu with ⟨rfl, rfl⟩ | ⟨ne, q⟩
    · exact h1
    · have := h.one j u q
      exact { this with ok := ho j u ne q }
  · obtain ⟨B0, hB0, lB⟩ := lat k B hB
    rcases set_cases hA with ⟨rfl, rfl⟩ | ⟨_, q⟩
    · rcases hse k B0 hB0 m hm with z | z
      · exact (h.sv _ k _ _ hi hB0 m z).later lB
      · exact z.later ⟨fun _ _ h => h, lB.came, lB.back, lB.day⟩
    · exact (h.sv _ k _ _ q hB0 m hm).later lB
  · obtain ⟨B0, hB0, lB⟩ := lat k B hB
    rcases set_cases hA with ⟨rfl, rfl⟩ | ⟨_, q⟩
    · rcases haw k B0 hB0 m hm with z | z
      · exact lB.back m (h.av _ k _ _ hi hB0 m z)
      · exact lB.back m z
    · exact lB.back m (h.av _ k _ _ q hB0 m hm)
def hearAt (hs : List Hs) (l : Int × Msg) : List Hs × List (Int × Msg) := match hs[l.1.toNat]? with
  | some s => (hs.set l.1.toNat (s.hear l.2).1, (s.hear l.2).2)
  | none => (hs, [])
theorem settle_fold {α : Type} (f : α → Mark) (o : Int) : ∀ (l : List α) (s : Hs) (j : Int) (m : Mark), m ∈ ((l.foldl (fun s a => s.settle1 o (f a)) s).sett j) ↔ m ∈ s.sett j ∨ (j = o ∧ ∃ a ∈ l, m = f a)
  | [], s, j, m => by simp
  | a :: l, s, j, m => by
    rw [List.foldl_cons, settle_fold f o l]
    have : m ∈ (s.settle1 o (f a)).sett j ↔ m ∈ s.sett j ∨ (j = o ∧ m = f a) := mem_setI_iff
    rw [this]
    constructor
    · rintro ((h | ⟨h1, h2⟩) | ⟨h1, b, hb, h2⟩)
      · exact .inl h
      · exact .inr ⟨h1, a, by simp, h2⟩
      · exact .inr ⟨h1, b, by simp [hb], h2⟩
    · rintro (h | ⟨h1, b, hb, h2⟩)
      · exact .inl (.inl h)
      · rcases List.mem_cons.mp hb with rfl | hb
        · exact .inl (.inr ⟨h1, h2⟩)
        · exact .inr ⟨h1, b, hb, h2⟩
theorem aware_fold (o : Int) : ∀ (l : List Mark) (s : Hs) (j : Int) (m : Mark), m ∈ ((l.foldl (fun s a => s.aware1 o a) s).awar j) ↔ m ∈ s.awar j ∨ (j = o ∧ m ∈ l)
  | [], s, j, m => by simp
  | a :: l, s, j, m => by
    rw [List.foldl_cons, aware_fold o l]
    have : m ∈ (s.aware1 o a).awar j ↔ m ∈ s.awar j ∨ (j = o ∧ m = a) := mem_setI_iff
    rw [this, List.mem_cons]
    constructor
    · rintro ((h | ⟨h1, h2⟩) | ⟨h1, h2⟩)
      · exact .inl h
      · exact .inr ⟨h1, .inl h2⟩
      · exact .inr ⟨h1, .inr h2⟩
    · rintro (h | ⟨h1, h2 | h2⟩)
      · exact .inl (.inl h)
      · exact .inl (.inr ⟨h1, h2⟩)
      · exact .inr ⟨h1, h2⟩
theorem back_fold (o : Int) : ∀ (l : List Mark) (s : Hs) (m : Mark), m ∈ ((l.foldl (Hs.newsBack o) s).back) ↔ m ∈ s.back ∨ m ∈ l
  | [], s, m => by simp
  | a :: l, s, m => by
    rw [List.foldl_cons, back_fold o l]
    have : m ∈ (s.newsBack o a).back ↔ m ∈ s.back ∨ m = a := mem_ins
    rw [this, List.mem_cons]
    constructor
    · rintro ((h | h) | h)
      · exact .inl h
      · exact .inr (.inl h)
      · exact .inr (.inr h)
    · rintro (h | h | h)
      · exact .inl (.inl h)
      · exact .inl (.inr h)
      · exact .inr h
theorem there_fold (o : Int) : ∀ (l : List Mark) (s : Hs) (t : Note), t ∈ ((l.foldl (Hs.newsBack o) s).there) ↔ t ∈ s.there ∧ t.1 ∉ l
  | [], s, t => by simp
  | a :: l, s, t => by
    rw [List.foldl_cons, there_fold o l]
    have : t ∈ (s.newsBack o a).there ↔ t ∈ s.there ∧ t.1 ≠ a := mem_dropN
    rw [this, List.mem_cons, not_or, and_assoc]
theorem awar_fold (o : Int) : ∀ (l : List Mark) (s : Hs) (j : Int) (m : Mark), m ∈ ((l.foldl (Hs.newsBack o) s).awar j) ↔ m ∈ s.awar j ∨ (j = o ∧ m ∈ l)
  | [], s, j, m => by simp
  | a :: l, s, j, m => by
    rw [List.foldl_cons, awar_fold o l]
    have : m ∈ (s.newsBack o a).awar j ↔ m ∈ s.awar j ∨ (j = o ∧ m = a) := mem_setI_iff
    rw [this, List.mem_cons]
    constructor
    · rintro ((h | ⟨h1, h2⟩) | ⟨h1, h2⟩)
      · exact .inl h
      · exact .inr ⟨h1, .inl h2⟩
      · exact .inr ⟨h1, .inr h2⟩
    · rintro (h | ⟨h1, h2 | h2⟩)
      · exact .inl (.inl h)
      · exact .inl (.inr ⟨h1, h2⟩)
      · exact .inr ⟨h1, h2⟩
section
variable (s : Hs) (o : Int) (es : List (Mark × Int)) (bs nl ws : List Mark)
def nb : Hs := bs.foldl (Hs.newsBack o) s
theorem hn_eq : (s.hearNews o es bs).1 = es.foldl (fun s p => s.settle1 o p.1) (nb s o bs) := rfl
theorem hn_there : (s.hearNews o es bs).1.there = (nb s o bs).there := Hs.foldl_keep (fun s (p : Mark × Int) => s.settle1 o p.1) (·.there) (fun _ _ => rfl) es _
theorem hn_back : (s.hearNews o es bs).1.back = (nb s o bs).back := Hs.foldl_keep (fun s (p : Mark × Int) => s.settle1 o p.1) (·.back) (fun _ _ => rfl) es _
theorem hn_awar : (s.hearNews o es bs).1.awar = (nb s o bs).awar := Hs.foldl_keep (fun s (p : Mark × Int) => s.settle1 o p.1) (·.awar) (fun _ _ => rfl) es _
theorem nb_sett : (nb s o bs).sett = s.sett := Hs.foldl_keep (Hs.newsBack o) (·.sett) (fun _ _ => rfl) bs _
theorem nb_day : (nb s o bs).day = s.day := Hs.foldl_keep (Hs.newsBack o) (·.day) (fun _ _ => rfl) bs _
theorem nb_came : (nb s o bs).came = s.came := Hs.foldl_keep (Hs.newsBack o) (·.came) (fun _ _ => rfl) bs _
theorem hn_sett {j : Int} {m : Mark} : m ∈ (s.hearNews o es bs).1.sett j ↔ m ∈ s.sett j ∨ (j = o ∧ ∃ p ∈ es, m = p.1) := by
  rw [hn_eq, settle_fold (fun p : Mark × Int => p.1), nb_sett]
theorem hn_awar_mem {j : Int} {m : Mark} : m ∈ (s.hearNews o es bs).1.awar j ↔ m ∈ s.awar j ∨ (j = o ∧ m ∈ bs) := by
  rw [hn_awar]
  exact awar_fold o bs s j m
theorem hn_back_mem {m : Mark} : m ∈ (s.hearNews o es bs).1.back ↔ m ∈ s.back ∨ m ∈ bs := by
  rw [hn_back]
  exact back_fold o bs s m
theorem hd_sett {j : Int} {m : Mark} : m ∈ (s.heard o nl bs).sett j ↔ m ∈ s.sett j ∨ (j = o ∧ m ∈ nl) := by
  unfold Hs.heard
  rw [Hs.foldl_keep (fun s (m : Mark) => s.aware1 o m) (·.sett) (fun _ _ => rfl), settle_fold (fun m : Mark => m)]
  simp
theorem hd_awar {j : Int} {m : Mark} : m ∈ (s.heard o nl bs).awar j ↔ m ∈ s.awar j ∨ (j = o ∧ m ∈ bs) := by
  unfold Hs.heard
  rw [aware_fold, Hs.foldl_keep (fun s (m : Mark) => s.settle1 o m) (·.awar) (fun _ _ => rfl)]
theorem hd_there : (s.heard o nl bs).there = s.there := by
  unfold Hs.heard
  rw [Hs.foldl_keep (fun s (m : Mark) => s.aware1 o m) (·.there) (fun _ _ => rfl), Hs.foldl_keep (fun s (m : Mark) => s.settle1 o m) (·.there) (fun _ _ => rfl)]
theorem hd_back : (s.heard o nl bs).back = s.back := by
  unfold Hs.heard
  rw [Hs.foldl_keep (fun s (m : Mark) => s.aware1 o m) (·.back) (fun _ _ => rfl), Hs.foldl_keep (fun s (m : Mark) => s.settle1 o m) (·.back) (fun _ _ => rfl)]
theorem takeNote_sett (t : Note) : (s.takeNote t).sett = s.sett ∧ (s.takeNote t).awar = s.awar ∧ (s.takeNote t).back = s.back ∧ (s.takeNote t).day = s.day := by
  unfold Hs.takeNote
  split
  · exact ⟨rfl, rfl, rfl, rfl⟩
  · split <;> exact ⟨rfl, rfl, rfl, rfl⟩
theorem notes_sett (ts : List Note) : (s.hearNotes ts).1.sett = s.sett := Hs.foldl_keep Hs.takeNote (·.sett) (fun s t => (takeNote_sett s t).1) ts s
theorem notes_awar (ts : List Note) : (s.hearNotes ts).1.awar = s.awar := Hs.foldl_keep Hs.takeNote (·.awar) (fun s t => (takeNote_sett s t).2.1) ts s
theorem notes_back (ts : List Note) : (s.hearNotes ts).1.back = s.back := Hs.foldl_keep Hs.takeNote (·.back) (fun s t => (takeNote_sett s t).2.2.1) ts s
theorem notes_day (ts : List Note) : (s.hearNotes ts).1.day = s.day := Hs.foldl_keep Hs.takeNote (·.day) (fun s t => (takeNote_sett s t).2.2.2) ts s
end
theorem notes_known {R : Reg} {ts : List Note} {s : Hs} (h : Ok R s) (ht : ∀ t ∈ ts, R.wr t.1 = some t.2) : ∀ t ∈ ts, Known R (ts.foldl Hs.takeNote s) t.1 := by
  induction ts generalizing s with
  | nil => intro t h; simp at h
  | cons u ts ih =>
    intro t hm
    have h1 := step_takeNote h (ht u (by simp))
    have ht' : ∀ t ∈ ts, R.wr t.1 = some t.2 := fun x hx => ht x (by simp [hx])
    rcases List.mem_cons.mp hm with rfl | hm
    · have k : Known R (s.takeNote t) t.1 := by
        unfold Hs.takeNote
        split
        · rename_i hb
          rcases Hs.barred_iff.mp hb with z | z
          · exact .inr (.inr ⟨t.2, ht t (by simp), z⟩)
          · exact .inr (.inl z)
        · split
          · rename_i hc
            exact .inl hc
          · exact .inl (mem_ins.mpr (.inr rfl))
      exact k.later (step_fold (fun s t hm hs => step_takeNote hs (ht' t hm)) h1.ok).later
    · exact ih h1.ok ht' t hm
theorem dull_known {R : Reg} {s : Hs} {p : Mark × Int} (hp : ∃ w, R.wr p.1 = some (w, p.2)) (h : s.dull p = true) : Known R s p.1 := by
  unfold Hs.dull at h
  rw [Bool.or_eq_true, decide_eq_true_eq, Hs.barred_iff] at h
  rcases h with h | h | h
  · exact .inl h
  · obtain ⟨w, hw⟩ := hp
    exact .inr (.inr ⟨_, hw, h⟩)
  · exact .inr (.inl h)
structure Goes (R : Reg) (hs : List Hs) (i : Nat) (s s' : Hs) (an : List (Int × Msg)) : Prop where
  step : Step R s s'
  sys : Sys R (hs.set i s')
  ans : ∀ a ∈ an, LetOk R (hs.set i s') a
  old : ∀ a, LetOk R hs a → LetOk R (hs.set i s') a
theorem sys_hear {R : Reg} {hs : List Hs} (h : Sys R hs) {l : Int × Msg} (hl : LetOk R hs l) : ∃ (i : Nat) (s : Hs), l.1 = (i : Int) ∧ hs[i]? = some s ∧ hearAt hs l = (hs.set i (s.hear l.2).1, (s.hear l.2).2) ∧ Goes R hs i s (s.hear l.2).1 (s.hear l.2).2 := by
  obtain ⟨i, e, hi⟩ := hl.to
  obtain ⟨s, hs1⟩ : ∃ s, hs[i]? = some s := ⟨_, List.getElem?_eq_getElem hi⟩
  have o1 := h.one i s hs1
  have st := step_hear o1.ok hl.msg
  have al := allLater_set hs1 st.later fun _ _ h => h
  have hold : ∀ a, LetOk R hs a → LetOk R (hs.set i (s.hear l.2).1) a := fun a ha => ha.later al (fun _ _ h => h) fun _ h => h
  refine ⟨i, s, e, hs1, ?_, st, ?_, ?_, hold⟩
  · unfold hearAt
    rw [e, Int.toNat_natCast, hs1]
  · obtain ⟨j, F, e2, hF, sy⟩ := hl.frm
    refine sys_set h hs1 st.later (fun _ _ h => h) ⟨st.ok, st.num.trans o1.num, st.many.trans o1.many, by rw [st.tied]; exact o1.tnd, by rw [st.tied]; exact o1.tie⟩ (fun k u _ hu => (h.one k u hu).ok) (fun k B hB m hm => ?_) fun k B hB m hm => ?_
    · obtain ⟨to, a⟩ := l
      cases a with
      | news o es bs =>
        rcases (hn_sett s o es bs).mp hm with z | ⟨z, p, hp, rfl⟩
        · exact .inl z
        · right
          have : k = j := by have : (o : Int) = j := e2; omega
          subst this
          rw [hF] at hB
          cases hB
          exact sy.1 p hp
      | reply o nl bs ws =>
        rcases (hd_sett s o bs nl).mp hm with z | ⟨z, hp⟩
        · exact .inl z
        · right
          have : k = j := by have : (o : Int) = j := e2; omega
          subst this
          rw [hF] at hB
          cases hB
          exact sy.1 m hp
      | notes o ts =>
        left
        have hm' : m ∈ (s.hearNotes ts).1.sett k := hm
        rw [notes_sett] at hm'
        exact hm'
    · obtain ⟨to, a⟩ := l
      cases a with
      | news o es bs =>
        rcases (hn_awar_mem s o es bs).mp hm with z | ⟨z, hp⟩
        · exact .inl z
        · right
          have : k = j := by have : (o : Int) = j := e2; omega
          subst this
          rw [hF] at hB
          cases hB
          exact sy.2 m hp
      | reply o nl bs ws =>
        rcases (hd_awar s o bs nl).mp hm with z | ⟨z, hp⟩
        · exact .inl z
        · right
          have : k = j := by have : (o : Int) = j := e2; omega
          subst this
          rw [hF] at hB
          cases hB
          exact sy.2 m hp
      | notes o ts =>
        left
        have hm' : m ∈ (s.hearNotes ts).1.awar k := hm
        rw [notes_awar] at hm'
        exact hm'
  · intro a ha
    obtain ⟨j, F, e2, hF, sy⟩ := hl.frm
    have hmsg := hear_ok o1.ok hl.msg a ha
    have hset : (hs.set i (s.hear l.2).1)[i]? = some (s.hear l.2).1 := List.getElem?_set_self hi
    have hjl := (List.getElem?_eq_some_iff.mp hF).1
    obtain ⟨to, b⟩ := l
    have hnum : s.num = (i : Int) := o1.num
    cases b with
    | news o es bs =>
      obtain ⟨q1, q2, q3⟩ := answer_mem (s := (s.hearNews o es bs).1) (o := o) (a := some (s.hearNews o es bs).2) ha
      have q2' := Option.some.inj q2
      refine ⟨hmsg, ⟨j, q1.trans e2, by rw [List.length_set]; exact hjl⟩, ⟨i, _, by rw [← q2']; exact hnum, hset, ?_⟩⟩
      rw [← q2']
      refine ⟨fun m hm => ?_, fun m hm => (hn_back_mem s o es bs).mpr (.inr hm)⟩
      obtain ⟨p, hp, rfl⟩ := List.mem_map.mp hm
      obtain ⟨hp1, hp2⟩ := List.mem_filter.mp hp
      have := dull_known (hl.msg.1 p hp1) hp2
      rcases this with z | z | ⟨v, z1, z2⟩
      · exact .inl (by show p.1 ∈ (s.hearNews o es bs).1.came; rw [came_keep]; exact nb_came s o bs ▸ z)
      · exact .inr (.inl (by show p.1 ∈ (s.hearNews o es bs).1.back; rw [hn_back]; exact z))
      · exact .inr (.inr ⟨v, z1, by
          have : (s.hearNews o es bs).1.day = s.day := st.day
          show v.2 ≤ (s.hearNews o es bs).1.day
          rw [this, ← nb_day s o bs]; exact z2⟩)
    | reply o nl bs ws =>
      obtain ⟨q1, q2, q3⟩ := answer_mem (s := (s.hearReply o nl bs ws).1) (o := o) (a := (s.hearReply o nl bs ws).2) ha
      unfold Hs.hearReply at q2
      simp only at q2
      split at q2
      · cases q2
      · have q2' := Option.some.inj q2
        refine ⟨hmsg, ⟨j, q1.trans e2, by rw [List.length_set]; exact hjl⟩, ⟨i, _, by rw [← q2']; exact hnum, hset, ?_⟩⟩
        rw [← q2']
        trivial
    | notes o ts =>
      obtain ⟨q1, q2, q3⟩ := answer_mem (s := (s.hearNotes ts).1) (o := o) (a := some (s.hearNotes ts).2) ha
      have q2' := Option.some.inj q2
      refine ⟨hmsg, ⟨j, q1.trans e2, by rw [List.length_set]; exact hjl⟩, ⟨i, _, by rw [← q2']; exact hnum, hset, ?_⟩⟩
      rw [← q2']
      refine ⟨fun m hm => ?_, fun m hm => by simp at hm⟩
      obtain ⟨t, ht, rfl⟩ := List.mem_map.mp hm
      exact notes_known o1.ok hl.msg t ht
end NF
set_option linter.all false
namespace NF
def Msg.wt : Msg → Nat
  | .news _ _ _ => 4
  | .reply _ _ _ ws => if ws = [] then 1 else 3
  | .notes _ _ => 2
def wts (q : List (Int × Msg)) : Nat := (q.map fun l => l.2.wt).sum
theorem wts_cons (l : Int × Msg) (q : List (Int × Msg)) : wts (l :: q) = l.2.wt + wts q := by simp [wts]
theorem wts_append (a b : List (Int × Msg)) : wts (a ++ b) = wts a + wts b := by simp [wts]
theorem wts_answer (s : Hs) (o : Int) (m : Msg) : wts (s.answer o (some m)) ≤ m.wt := by
  unfold Hs.answer
  simp only
  split
  · simp [wts]
  · simp [wts]
theorem answer_len (s : Hs) (o : Int) (m : Option Msg) : (s.answer o m).length ≤ 1 := by
  unfold Hs.answer
  split
  · split <;> simp
  · simp
theorem hear_len (s : Hs) (a : Msg) : (s.hear a).2.length ≤ 1 := by
  cases a with
  | news o es bs => exact answer_len (s.hearNews o es bs).1 o (some (s.hearNews o es bs).2)
  | reply o nl bs ws => exact answer_len (s.hearReply o nl bs ws).1 o (s.hearReply o nl bs ws).2
  | notes o ts => exact answer_len (s.hearNotes ts).1 o (some (s.hearNotes ts).2)
theorem wt_pos (a : Msg) : 1 ≤ a.wt := by
  cases a with
  | news => show 1 ≤ 4; omega
  | reply _ _ _ ws => show 1 ≤ if ws = [] then 1 else 3; split <;> omega
  | notes => show 1 ≤ 2; omega
theorem wts_hear (s : Hs) (a : Msg) : wts (s.hear a).2 < a.wt := by
  cases a with
  | news o es bs =>
    have := wts_answer (s.hearNews o es bs).1 o (s.hearNews o es bs).2
    have h2 : (s.hearNews o es bs).2.wt ≤ 3 := by
      show (if _ then 1 else 3) ≤ 3
      split <;> omega
    show wts (Hs.answer _ _ (some _)) < 4
    omega
  | reply o nl bs ws =>
    show wts (Hs.answer _ _ _) < if ws = [] then 1 else 3
    have e : (s.hearReply o nl bs ws).2 = if (s.heard o nl bs).handed o ws = [] then none else some (.notes s.num ((s.heard o nl bs).handed o ws)) := rfl
    rw [e]
    split
    · rename_i hh
      rw [show Hs.answer (s.hearReply o nl bs ws).1 o none = [] from rfl]
      split <;> simp [wts]
    · rename_i hh
      have hw : ws ≠ [] := fun z => hh (by rw [z]; rfl)
      rw [if_neg hw]
      have := wts_answer (s.hearReply o nl bs ws).1 o (.notes s.num ((s.heard o nl bs).handed o ws))
      have h2 : (Msg.notes s.num ((s.heard o nl bs).handed o ws)).wt = 2 := rfl
      omega
  | notes o ts =>
    have := wts_answer (s.hearNotes ts).1 o (s.hearNotes ts).2
    have h2 : (s.hearNotes ts).2.wt = 1 := rfl
    show wts (Hs.answer _ _ (some _)) < 2
    omega
theorem wts_hearAt (hs : List Hs) (l : Int × Msg) (q : List (Int × Msg)) : wts (q ++ (hearAt hs l).2) < wts (l :: q) := by
  rw [wts_append, wts_cons]
  unfold hearAt
  split
  · rename_i s _
    have := wts_hear s l.2
    simp only
    omega
  · have := wt_pos l.2
    simp only [wts, List.map_nil, List.sum_nil]
    omega
def Both (hs : List Hs) : Prop := ∀ (i j : Nat) A B, hs[i]? = some A → hs[j]? = some B → (j : Int) ∈ A.tied → (i : Int) ∈ B.tied
def Cov (B : Int) (l : Int × Msg) (m : Mark) : Prop := match l.2 with
  | .news _ es _ => l.1 = B ∧ m ∈ es.map (·.1)
  | .reply s nl _ ws => s = B ∧ (m ∈ nl ∨ m ∈ ws)
  | .notes _ ts => l.1 = B ∧ m ∈ mks ts
def CovB (B : Int) (l : Int × Msg) (m : Mark) : Prop := match l.2 with
  | .news _ _ bs => l.1 = B ∧ m ∈ bs
  | .reply s _ bs _ => s = B ∧ m ∈ bs
  | .notes _ _ => False
def Msg.mate (l : Int × Msg) : Int := match l.2 with
  | .news _ _ _ => l.1
  | .reply s _ _ _ => s
  | .notes _ _ => l.1
structure Turny (A0 : Hs) (k : Nat) (l : Int × Msg) : Prop where
  mate : Msg.mate l ∈ A0.tied
  side : match l.2 with
    | .news s es bs => s = k ∧ (∀ p ∈ es, p.1 ∈ mks A0.there ∧ p.1 ∉ A0.sett l.1) ∧ (∀ m ∈ bs, m ∈ A0.back ∧ m ∉ A0.awar l.1) ∧ (es.map (·.1)).Nodup
    | .reply _ _ _ ws => l.1 = k ∧ ws.Nodup ∧ ∀ m ∈ ws, m ∈ mks A0.there
    | .notes s ts => s = k ∧ (∀ t ∈ ts, t ∈ A0.there ∧ t.1 ∉ A0.sett l.1) ∧ (mks ts).Nodup
structure Turn (R : Reg) (hs0 : List Hs) (k : Nat) (A0 : Hs) (hs : List Hs) (q : List (Int × Msg)) : Prop where
  sys : Sys R hs
  len : hs.length = hs0.length
  at0 : hs0[k]? = some A0
  both : Both hs
  let_ : ∀ l ∈ q, LetOk R hs l
  tur : ∀ l ∈ q, Turny A0 k l
  uni : q.Pairwise fun a b => Msg.mate a ≠ Msg.mate b
  me : ∃ A, hs[k]? = some A ∧ A.there = A0.there ∧ A.back = A0.back ∧ A.came = A0.came ∧ A.tied = A0.tied ∧ A.copies = A0.copies ∧ (∀ o, ∀ m ∈ A0.sett o, m ∈ A.sett o) ∧
    (∀ B ∈ A0.tied, ∀ m ∈ mks A0.there, m ∉ A.sett B → ∃ l ∈ q, Cov B l m) ∧ (∀ B ∈ A0.tied, ∀ m ∈ A0.back, m ∉ A.awar B → ∃ l ∈ q, CovB B l m)
  oth : ∀ (j : Nat) B, j ≠ k → hs[j]? = some B → ∃ B0, hs0[j]? = some B0 ∧ Step R B0 B ∧ (∀ m ∈ B.came, m ∈ B0.came ∨ ((j : Int) ∈ A0.tied ∧ m ∈ mks A0.there ∧ m ∉ A0.sett j)) ∧ (∀ m ∈ B.back, m ∈ B0.back ∨ ((j : Int) ∈ A0.tied ∧ m ∈ A0.back ∧ m ∉ A0.awar j))
  new : ∀ l ∈ q, ∀ (j : Nat) B, hs[j]? = some B → match l.2 with
    | .reply s _ _ ws => s = j → ∀ m ∈ ws, m ∉ B.came
    | .notes _ ts => l.1 = j → ∀ m ∈ mks ts, m ∉ B.came
    | .news _ _ _ => True
  cop : ∀ (j : Nat) B B0, hs[j]? = some B → hs0[j]? = some B0 → B.copies - B0.copies = (B.came.length : Int) - B0.came.length
  stk : ∀ A, hs[k]? = some A → Step R A0 A
theorem tell_one {s : Hs} {o : Int} {l : Int × Msg} (h : l ∈ s.tell o) : l = (o, .news s.num (s.ends o) (s.backs o)) := by
  unfold Hs.tell at h
  split at h
  · simp at h
  · exact List.mem_singleton.mp h
theorem letters_mem {s : Hs} {ts : List Int} {l : Int × Msg} (h : l ∈ s.letters ts) : ∃ o ∈ ts, l = (o, .news s.num (s.ends o) (s.backs o)) := by
  obtain ⟨o, h1, h2⟩ := List.mem_flatMap.mp h
  exact ⟨o, h1, tell_one h2⟩
theorem letters_pw {s : Hs} {ts : List Int} (h : ts.Nodup) : (s.letters ts).Pairwise fun a b => Msg.mate a ≠ Msg.mate b := by
  induction ts with
  | nil => simp [Hs.letters]
  | cons t ts ih =>
    have hn := List.nodup_cons.mp h
    show (s.tell t ++ s.letters ts).Pairwise _
    refine List.pairwise_append.mpr ⟨?_, ih hn.2, fun a ha b hb => ?_⟩
    · unfold Hs.tell
      split <;> simp
    · obtain ⟨o, ho, rfl⟩ := letters_mem hb
      rw [tell_one ha]
      show t ≠ o
      rintro rfl
      exact hn.1 ho
theorem ends_marks (s : Hs) (o : Int) : (s.ends o).map (·.1) = mks (s.there.filter fun t => decide (t.1 ∉ s.sett o)) := by
  unfold Hs.ends mks
  rw [List.map_map]
  rfl
theorem mem_ends {s : Hs} {o : Int} {m : Mark} : m ∈ (s.ends o).map (·.1) ↔ m ∈ mks s.there ∧ m ∉ s.sett o := by
  rw [ends_marks, mem_mks, mem_mks]
  constructor
  · rintro ⟨v, hv⟩
    obtain ⟨h1, h2⟩ := List.mem_filter.mp hv
    exact ⟨⟨v, h1⟩, of_decide_eq_true h2⟩
  · rintro ⟨⟨v, h1⟩, h2⟩
    exact ⟨v, List.mem_filter.mpr ⟨h1, decide_eq_true h2⟩⟩
theorem mem_backs {s : Hs} {o : Int} {m : Mark} : m ∈ s.backs o ↔ m ∈ s.back ∧ m ∉ s.awar o := by
  unfold Hs.backs
  rw [List.mem_filter, decide_eq_true_eq]
theorem turn_start {R : Reg} {hs : List Hs} {k : Nat} {A : Hs} (h : Sys R hs) (hk : hs[k]? = some A) (hb : Both hs) {ts : List Int} (ht : ts.Perm A.tied) : Turn R hs k A hs (A.letters ts) := by
  have o1 := h.one k A hk
  have hmem : ∀ o, o ∈ ts ↔ o ∈ A.tied := fun o => ht.mem_iff
  have hnd : ts.Nodup := ht.nodup_iff.mpr o1.tnd
  refine ⟨h, rfl, hk, hb, fun l hl => ?_, fun l hl => ?_, letters_pw hnd, ⟨A, hk, rfl, rfl, rfl, rfl, rfl, fun _ _ h => h, fun B hB m hm hs => ?_, fun B hB m hm hs => ?_⟩, fun j B hj hB => ⟨B, hB, Step.refl (h.one j B hB).ok, fun m hm => .inl hm, fun m hm => .inl hm⟩, fun l hl j B hB => ?_, fun j B B0 hB hB0 => ?_, fun A' hA' => ?_⟩
  · have hm := letters_ok o1.ok ts l hl
    obtain ⟨o, ho, rfl⟩ := letters_mem hl
    have := o1.tie o ((hmem o).mp ho)
    refine ⟨hm, ⟨o.toNat, by show o = _; omega, by omega⟩, ⟨k, A, o1.num, hk, fun p hp => ?_, fun m hm => ?_⟩⟩
    · obtain ⟨t, ht, rfl⟩ := List.mem_map.mp hp
      exact .inl (o1.ok.tc t (List.mem_filter.mp ht).1)
    · exact (List.mem_filter.mp hm).1
  · obtain ⟨o, ho, rfl⟩ := letters_mem hl
    refine ⟨(hmem o).mp ho, o1.num, fun p hp => ?_, fun m hm => mem_backs.mp hm, ?_⟩
    · exact mem_ends.mp (List.mem_map_of_mem hp)
    · show ((A.ends o).map (·.1)).Nodup
      rw [ends_marks]
      exact mks_filter o1.ok.tnd
  · refine ⟨(B, .news A.num (A.ends B) (A.backs B)), ?_, rfl, mem_ends.mpr ⟨hm, hs⟩⟩
    refine List.mem_flatMap.mpr ⟨B, (hmem B).mpr hB, ?_⟩
    unfold Hs.tell
    rw [if_neg]
    · simp
    · rintro ⟨z, _⟩
      have := mem_ends.mpr ⟨hm, hs⟩
      rw [z] at this
      simp at this
  · refine ⟨(B, .news A.num (A.ends B) (A.backs B)), ?_, rfl, mem_backs.mpr ⟨hm, hs⟩⟩
    refine List.mem_flatMap.mpr ⟨B, (hmem B).mpr hB, ?_⟩
    unfold Hs.tell
    rw [if_neg]
    · simp
    · rintro ⟨_, z⟩
      have := mem_backs.mpr ⟨hm, hs⟩
      rw [z] at this
      simp at this
  · obtain ⟨o, ho, rfl⟩ := letters_mem hl
    trivial
  · rw [hB] at hB0
    cases hB0
    omega
  · rw [hk] at hA'
    cases hA'
    exact Step.refl o1.ok
end NF
set_option linter.all false
namespace NF
theorem handed_sub (s : Hs) (o : Int) : ∀ ws : List Mark, (mks (s.handed o ws)).Sublist ws
  | [] => by simp [Hs.handed, mks]
  | m :: ws => by
    have ih := handed_sub s o ws
    have e : s.handed o (m :: ws) = s.handed1 o m ++ s.handed o ws := rfl
    rw [e]
    unfold mks at ih ⊢
    rw [List.map_append]
    unfold Hs.handed1
    split
    · split
      · exact List.Sublist.cons _ ih
      · exact List.Sublist.cons_cons _ ih
    · exact List.Sublist.cons _ ih
theorem handed_in {s : Hs} {o : Int} {ws : List Mark} {m : Mark} (h1 : m ∈ ws) (h2 : m ∈ mks s.there) (h3 : m ∉ s.sett o) : m ∈ mks (s.handed o ws) := by
  obtain ⟨v, hv⟩ := Option.isSome_iff_exists.mp (getN_isSome.mpr h2)
  refine mem_mks.mpr ⟨v, List.mem_flatMap.mpr ⟨m, h1, ?_⟩⟩
  unfold Hs.handed1
  rw [hv]
  simp [h3]
theorem notes_came : ∀ {ts : List Note} {s : Hs} {m : Mark}, m ∈ (ts.foldl Hs.takeNote s).came → m ∈ s.came ∨ m ∈ mks ts
  | [], s, m, h => .inl h
  | t :: ts, s, m, h => by
    rw [List.foldl_cons] at h
    rcases notes_came h with z | z
    · unfold Hs.takeNote at z
      split at z
      · exact .inl z
      · split at z
        · exact .inl z
        · rcases mem_ins.mp z with z | z
          · exact .inl z
          · exact .inr (by rw [z]; exact List.mem_cons_self)
    · exact .inr (List.mem_cons_of_mem _ z)
theorem notes_cop : ∀ {ts : List Note} {s : Hs}, (mks ts).Nodup → (∀ m ∈ mks ts, m ∉ s.came) → (ts.foldl Hs.takeNote s).copies - s.copies = ((ts.foldl Hs.takeNote s).came.length : Int) - s.came.length
  | [], s, _, _ => by simp
  | t :: ts, s, hn, hc => by
    have hn' := List.nodup_cons.mp (show (t.1 :: mks ts).Nodup from hn)
    have ht := hc t.1 List.mem_cons_self
    rw [List.foldl_cons]
    have h1 : (s.takeNote t).copies - s.copies = ((s.takeNote t).came.length : Int) - s.came.length ∧ ∀ m ∈ (s.takeNote t).came, m ∈ s.came ∨ m = t.1 := by
      unfold Hs.takeNote
      split
      · exact ⟨by omega, fun m hm => .inl hm⟩
      · have e : (Hs.take { s with copies := s.copies + 1 } t.1 t.2.1 t.2.2).came = s.came ++ [t.1] := ins_new ht
        rw [e, List.length_append]
        refine ⟨?_, fun m hm => by simpa using hm⟩
        show s.copies + 1 - s.copies = _
        simp
        omega
    have ih := notes_cop (ts := ts) (s := s.takeNote t) hn'.2 fun m hm z => by
      rcases h1.2 m z with z | z
      · exact hc m (List.mem_cons_of_mem _ hm) z
      · exact hn'.1 (z ▸ hm)
    omega
theorem both_set {hs : List Hs} {i : Nat} {s s' : Hs} (h : Both hs) (hi : hs[i]? = some s) (ht : s'.tied = s.tied) : Both (hs.set i s') := by
  have key : ∀ (j : Nat) B, (hs.set i s')[j]? = some B → ∃ B0, hs[j]? = some B0 ∧ B.tied = B0.tied := fun j B hB => by
    rcases set_cases hB with ⟨rfl, rfl⟩ | ⟨_, q⟩
    · exact ⟨s, hi, ht⟩
    · exact ⟨B, q, rfl⟩
  intro a b A B hA hB hm
  obtain ⟨A0, h1, e1⟩ := key a A hA
  obtain ⟨B0, h2, e2⟩ := key b B hB
  rw [e2]
  rw [e1] at hm
  exact h a b A0 B0 h1 h2 hm
theorem uni_step {l : Int × Msg} {q an : List (Int × Msg)} (h : (l :: q).Pairwise fun a b => Msg.mate a ≠ Msg.mate b) (hl : an.length ≤ 1) (hm : ∀ a ∈ an, Msg.mate a = Msg.mate l) : (q ++ an).Pairwise fun a b => Msg.mate a ≠ Msg.mate b := by
  have h1 := List.pairwise_cons.mp h
  refine List.pairwise_append.mpr ⟨h1.2, ?_, fun a ha b hb => ?_⟩
  · match an, hl with
    | [], _ => simp
    | [a], _ => simp
  · rw [hm b hb]
    exact fun z => h1.1 a ha z.symm
theorem turn_step {R : Reg} {hs0 hs : List Hs} {k : Nat} {A0 : Hs} {l : Int × Msg} {q : List (Int × Msg)} (T : Turn R hs0 k A0 hs (l :: q)) : Turn R hs0 k A0 (hearAt hs l).1 (q ++ (hearAt hs l).2) := by
  obtain ⟨i, s, hl1, hs1, he, G⟩ := sys_hear T.sys (T.let_ l (by simp))
  rw [he]
  obtain ⟨A, hA, m1, m2, m3, m4, m5, m6, m7, m8⟩ := T.me
  have oneA := T.sys.one k A hA
  have hil := (List.getElem?_eq_some_iff.mp hs1).1
  have tn : ∀ o ∈ A0.tied, o ≠ (k : Int) := fun o ho => (oneA.tie o (m4 ▸ ho)).2.2
  have tl := T.tur l (by simp)
  have hm0 : (q ++ (s.hear l.2).2) = (q ++ (s.hear l.2).2) := rfl
  have snum := (T.sys.one i s hs1).num
  have bo : Both (hs.set i (s.hear l.2).1) := both_set T.both hs1 G.step.tied
  have hset : (hs.set i (s.hear l.2).1)[i]? = some (s.hear l.2).1 := List.getElem?_set_self hil
  obtain ⟨to, a⟩ := l
  simp only at hl1
  subst hl1
  have base : ∀ (tur : ∀ a' ∈ (s.hear a).2, Turny A0 k a' ∧ Msg.mate a' = Msg.mate ((i : Int), a))
      (me : ∃ A, (hs.set i (s.hear a).1)[k]? = some A ∧ A.there = A0.there ∧ A.back = A0.back ∧ A.came = A0.came ∧ A.tied = A0.tied ∧ A.copies = A0.copies ∧ (∀ o, ∀ m ∈ A0.sett o, m ∈ A.sett o) ∧
        (∀ B ∈ A0.tied, ∀ m ∈ mks A0.there, m ∉ A.sett B → ∃ l ∈ q ++ (s.hear a).2, Cov B l m) ∧ (∀ B ∈ A0.tied, ∀ m ∈ A0.back, m ∉ A.awar B → ∃ l ∈ q ++ (s.hear a).2, CovB B l m))
      (oth : i ≠ k → (∀ m ∈ (s.hear a).1.came, m ∈ s.came ∨ ((i : Int) ∈ A0.tied ∧ m ∈ mks A0.there ∧ m ∉ A0.sett i)) ∧ ∀ m ∈ (s.hear a).1.back, m ∈ s.back ∨ ((i : Int) ∈ A0.tied ∧ m ∈ A0.back ∧ m ∉ A0.awar i))
      (new : ∀ l ∈ (s.hear a).2, ∀ (j : Nat) B, (hs.set i (s.hear a).1)[j]? = some B → match l.2 with
        | .reply s _ _ ws => s = j → ∀ m ∈ ws, m ∉ B.came
        | .notes _ ts => l.1 = j → ∀ m ∈ mks ts, m ∉ B.came
        | .news _ _ _ => True)
      (newq : (∀ m ∈ (s.hear a).1.came, m ∈ s.came) ∨ (∀ l ∈ q, Msg.mate l ≠ i))
      (cop : (s.hear a).1.copies - s.copies = ((s.hear a).1.came.length : Int) - s.came.length), Turn R hs0 k A0 (hs.set i (s.hear a).1) (q ++ (s.hear a).2) := by
    intro tur me oth new newq cop
    refine ⟨G.sys, by rw [List.length_set]; exact T.len, T.at0, bo, fun l hl => ?_, fun l hl => ?_, uni_step T.uni (hear_len s a) fun a' ha' => (tur a' ha').2, me, fun j B hj hB => ?_, fun l hl j B hB => ?_, fun j B B0 hB hB0 => ?_, fun A' hA' => ?_⟩
    · rcases List.mem_append.mp hl with z | z
      · exact G.old l (T.let_ l (List.mem_cons_of_mem _ z))
      · exact G.ans l z
    · rcases List.mem_append.mp hl with z | z
      · exact T.tur l (List.mem_cons_of_mem _ z)
      · exact (tur l z).1
    · rcases set_cases hB with ⟨rfl, rfl⟩ | ⟨ne, qB⟩
      · obtain ⟨B0, h1, h2, h3, h4⟩ := T.oth j s hj hs1
        refine ⟨B0, h1, h2.trans G.step, fun m hm => ?_, fun m hm => ?_⟩
        · rcases (oth hj).1 m hm with z | z
          · exact h3 m z
          · exact .inr z
        · rcases (oth hj).2 m hm with z | z
          · exact h4 m z
          · exact .inr z
      · exact T.oth j B hj qB
    · rcases List.mem_append.mp hl with z | z
      · rcases set_cases hB with ⟨rfl, rfl⟩ | ⟨ne, qB⟩
        · have h1 := T.new l (List.mem_cons_of_mem _ z) j s hs1
          obtain ⟨to, b⟩ := l
          cases b with
          | news => trivial
          | reply o nl bs ws =>
            intro e m hm hc
            rcases newq with w | w
            · exact h1 e m hm (w m hc)
            · exact w _ z e
          | notes o ts =>
            intro e m hm hc
            rcases newq with w | w
            · exact h1 e m hm (w m hc)
            · exact w _ z e
        · exact T.new l (List.mem_cons_of_mem _ z) j B qB
      · exact new l z j B hB
    · rcases set_cases hB with ⟨rfl, rfl⟩ | ⟨ne, qB⟩
      · have := T.cop j s B0 hs1 hB0
        omega
      · exact T.cop j B B0 qB hB0
    · rcases set_cases hA' with ⟨rfl, rfl⟩ | ⟨ne, qA⟩
      · exact (T.stk s hs1).trans G.step
      · exact T.stk A' qA
  have keepA : i ≠ k → (hs.set i (s.hear a).1)[k]? = some A := fun ne => by rw [List.getElem?_set_ne ne]; exact hA
  cases a with
  | news o es bs =>
    obtain ⟨hmate, ho, h2, h3, h4⟩ := tl
    have hik : i ≠ k := fun e => tn _ hmate (by show (i : Int) = k; omega)
    have hmate' : (i : Int) ∈ A0.tied := hmate
    have hkt : o ∈ (s.hearNews o es bs).1.tied := by
      have : (s.hearNews o es bs).1.tied = s.tied := G.step.tied
      rw [this, ho]
      exact T.both k i A s hA hs1 (m4 ▸ hmate')
    have ha : (s.hear (.news o es bs)).2 = [(o, (s.hearNews o es bs).2)] := if_pos hkt
    have hr : (s.hearNews o es bs).2 = .reply s.num ((es.filter (nb s o bs).dull).map (·.1)) bs ((es.filter fun p => !(nb s o bs).dull p).map (·.1)) := rfl
    rw [ha, hr] at base ⊢
    have cc : (s.hear (.news o es bs)).1.came = s.came := came_keep
    refine base ?_ ?_ ?_ ?_ (.inl fun m hm => by rw [cc] at hm; exact hm) ?_
    · intro a' ha'
      rw [List.mem_singleton] at ha'
      subst ha'
      refine ⟨⟨by show s.num ∈ _; rw [snum]; exact hmate', ho, ?_, fun m hm => ?_⟩, snum⟩
      · exact List.Pairwise.sublist (List.Sublist.map _ List.filter_sublist) h4
      · obtain ⟨p, hp, rfl⟩ := List.mem_map.mp hm
        exact (h2 p (List.mem_filter.mp hp).1).1
    · refine ⟨A, keepA hik, m1, m2, m3, m4, m5, m6, fun B hB m hm hs => ?_, fun B hB m hm hs => ?_⟩
      · obtain ⟨l', hl', hc⟩ := m7 B hB m hm hs
        rcases List.mem_cons.mp hl' with rfl | z
        · refine ⟨_, List.mem_append_right _ (List.mem_singleton.mpr rfl), ?_⟩
          obtain ⟨e, hc⟩ := hc
          refine ⟨snum.trans e, ?_⟩
          obtain ⟨p, hp, rfl⟩ := List.mem_map.mp hc
          by_cases hd : (nb s o bs).dull p = true
          · exact .inl (List.mem_map_of_mem (List.mem_filter.mpr ⟨hp, hd⟩))
          · exact .inr (List.mem_map_of_mem (List.mem_filter.mpr ⟨hp, by simpa using hd⟩))
        · exact ⟨l', List.mem_append_left _ z, hc⟩
      · obtain ⟨l', hl', hc⟩ := m8 B hB m hm hs
        rcases List.mem_cons.mp hl' with rfl | z
        · exact ⟨_, List.mem_append_right _ (List.mem_singleton.mpr rfl), snum.trans hc.1, hc.2⟩
        · exact ⟨l', List.mem_append_left _ z, hc⟩
    · refine fun _ => ⟨fun m hm => .inl (by rw [cc] at hm; exact hm), fun m hm => ?_⟩
      rcases (hn_back_mem s o es bs).mp hm with z | z
      · exact .inl z
      · exact .inr ⟨hmate', h3 m z⟩
    · intro l hl j B hB
      rw [List.mem_singleton] at hl
      subst hl
      intro e m hm
      have : j = i := by have : s.num = (j : Int) := e; omega
      subst this
      rw [hset] at hB
      obtain rfl := Option.some.inj hB
      rw [cc]
      obtain ⟨p, hp, rfl⟩ := List.mem_map.mp hm
      have hd := (List.mem_filter.mp hp).2
      intro z
      simp only [Hs.dull, Bool.not_eq_true', Bool.or_eq_false_iff, decide_eq_false_iff_not] at hd
      exact hd.1 (by rw [nb_came]; exact z)
    · have e1 : (s.hear (.news o es bs)).1.copies = s.copies := by
        show (es.foldl (fun s (p : Mark × Int) => s.settle1 o p.1) (bs.foldl (Hs.newsBack o) s)).copies = _
        rw [Hs.foldl_keep (fun s (p : Mark × Int) => s.settle1 o p.1) (·.copies) (fun _ _ => rfl), Hs.foldl_keep (Hs.newsBack o) (·.copies) (fun _ _ => rfl)]
      rw [e1, cc]
      omega
  | reply o nl bs ws =>
    obtain ⟨hmate, hk, hwn, hwt⟩ := tl
    have hik : i = k := by have : (i : Int) = k := hk; omega
    subst hik
    rw [hs1] at hA
    obtain rfl := Option.some.inj hA
    have hmate' : o ∈ A0.tied := hmate
    have et : (s.hear (.reply o nl bs ws)).1.there = s.there := hd_there s o bs nl
    have eb : (s.hear (.reply o nl bs ws)).1.back = s.back := hd_back s o bs nl
    have cc : (s.hear (.reply o nl bs ws)).1.came = s.came := came_keep_heard
    have ecop : (s.hear (.reply o nl bs ws)).1.copies = s.copies := by
      show (Hs.heard s o nl bs).copies = _
      unfold Hs.heard
      rw [Hs.foldl_keep (fun s (m : Mark) => s.aware1 o m) (·.copies) (fun _ _ => rfl), Hs.foldl_keep (fun s (m : Mark) => s.settle1 o m) (·.copies) (fun _ _ => rfl)]
    have hot : o ∈ (s.hear (.reply o nl bs ws)).1.tied := by rw [G.step.tied, m4]; exact hmate'
    have hj : ∃ j : Nat, o = j ∧ j ≠ i := by
      have := oneA.tie o (m4 ▸ hmate')
      exact ⟨o.toNat, by omega, by omega⟩
    obtain ⟨j0, ej0, hj0⟩ := hj
    have hnt : (s.hear (.reply o nl bs ws)).2 = if (s.heard o nl bs).handed o ws = [] then [] else [(o, .notes s.num ((s.heard o nl bs).handed o ws))] := by
      show Hs.answer (s.heard o nl bs) o (if (s.heard o nl bs).handed o ws = [] then none else some (.notes s.num ((s.heard o nl bs).handed o ws))) = _
      split
      · rfl
      · exact if_pos hot
    have key : ∀ a' ∈ (s.hear (.reply o nl bs ws)).2, a' = (o, .notes s.num ((s.heard o nl bs).handed o ws)) := fun a' ha' => by
      rw [hnt] at ha'
      split at ha'
      · simp at ha'
      · exact List.mem_singleton.mp ha'
    refine base ?_ ?_ ?_ ?_ (.inl fun m hm => by rw [cc] at hm; exact hm) ?_
    · intro a' ha'
      rw [key a' ha']
      refine ⟨⟨hmate', snum, fun t ht => ?_, ?_⟩, rfl⟩
      · obtain ⟨q1, q2, q3⟩ := handed_mem ht
        rw [hd_there, m1] at q2
        exact ⟨q2, fun z => q3 ((hd_sett s o bs nl).mpr (.inl (m6 o _ z)))⟩
      · exact List.Pairwise.sublist (handed_sub _ o ws) hwn
    · refine ⟨_, hset, et.trans m1, eb.trans m2, cc.trans m3, G.step.tied.trans m4, ecop.trans m5, fun o' m hm => G.step.sett o' m (m6 o' m hm), fun B hB m hm hs => ?_, fun B hB m hm hs => ?_⟩
      · obtain ⟨l', hl', hc⟩ := m7 B hB m hm fun z => hs (G.step.sett B m z)
        rcases List.mem_cons.mp hl' with rfl | z
        · obtain ⟨e, hc⟩ := hc
          have hs' : m ∉ (s.heard o nl bs).sett o := by
            have e' : o = B := e
            subst e'
            exact hs
          have hmw : m ∈ ws := by
            rcases hc with z | z
            · exact absurd ((hd_sett s o bs nl).mpr (.inr ⟨rfl, z⟩)) hs'
            · exact z
          have hin : m ∈ mks ((s.heard o nl bs).handed o ws) := handed_in hmw (by rw [hd_there, m1]; exact hm) hs'
          refine ⟨(o, .notes s.num ((s.heard o nl bs).handed o ws)), List.mem_append_right _ ?_, e, hin⟩
          rw [hnt, if_neg]
          · simp
          · intro z
            rw [z] at hin
            simp [mks] at hin
        · exact ⟨l', List.mem_append_left _ z, hc⟩
      · obtain ⟨l', hl', hc⟩ := m8 B hB m hm fun z => hs (G.step.awar B m z)
        rcases List.mem_cons.mp hl' with rfl | z
        · obtain ⟨e, hc⟩ := hc
          have e' : o = B := e
          subst e'
          exact absurd ((hd_awar s o bs nl).mpr (.inr ⟨rfl, hc⟩)) hs
        · exact ⟨l', List.mem_append_left _ z, hc⟩
    · intro z
      exact absurd rfl z
    · intro l hl j B hB
      rw [key l hl]
      intro e m hm
      have ej : j = j0 := by have : o = (j : Int) := e; omega
      subst ej
      rw [List.getElem?_set_ne (Ne.symm hj0)] at hB
      exact T.new _ List.mem_cons_self j B hB ej0 m ((handed_sub _ o ws).subset hm)
    · rw [ecop, cc]
      omega
  | notes o ts =>
    obtain ⟨hmate, ho, h2, h4⟩ := tl
    have hik : i ≠ k := fun e => tn _ hmate (by show (i : Int) = k; omega)
    have hmate' : (i : Int) ∈ A0.tied := hmate
    have hkt : o ∈ (s.hearNotes ts).1.tied := by
      have : (s.hearNotes ts).1.tied = s.tied := G.step.tied
      rw [this, ho]
      exact T.both k i A s hA hs1 (m4 ▸ hmate')
    have ha : (s.hear (.notes o ts)).2 = [(o, (s.hearNotes ts).2)] := if_pos hkt
    have hr : (s.hearNotes ts).2 = .reply s.num (ts.map (·.1)) [] [] := rfl
    rw [ha, hr] at base ⊢
    refine base ?_ ?_ ?_ ?_ (.inr fun l' hl' => ?_) ?_
    · intro a' ha'
      rw [List.mem_singleton] at ha'
      subst ha'
      exact ⟨⟨by show s.num ∈ _; rw [snum]; exact hmate', ho, by simp, fun m hm => by simp at hm⟩, snum⟩
    · refine ⟨A, keepA hik, m1, m2, m3, m4, m5, m6, fun B hB m hm hs => ?_, fun B hB m hm hs => ?_⟩
      · obtain ⟨l', hl', hc⟩ := m7 B hB m hm hs
        rcases List.mem_cons.mp hl' with rfl | z
        · exact ⟨_, List.mem_append_right _ (List.mem_singleton.mpr rfl), snum.trans hc.1, .inl hc.2⟩
        · exact ⟨l', List.mem_append_left _ z, hc⟩
      · obtain ⟨l', hl', hc⟩ := m8 B hB m hm hs
        rcases List.mem_cons.mp hl' with rfl | z
        · exact hc.elim
        · exact ⟨l', List.mem_append_left _ z, hc⟩
    · refine fun _ => ⟨fun m hm => ?_, fun m hm => .inl ?_⟩
      · rcases notes_came hm with z | z
        · exact .inl z
        · obtain ⟨v, hv⟩ := mem_mks.mp z
          have := h2 _ hv
          exact .inr ⟨hmate', mem_mks.mpr ⟨v, this.1⟩, this.2⟩
      · have : (s.hearNotes ts).1.back = s.back := notes_back s ts
        have hm' : m ∈ (s.hearNotes ts).1.back := hm
        rw [this] at hm'
        exact hm'
    · intro l hl j B hB
      rw [List.mem_singleton] at hl
      subst hl
      intro e m hm
      simp at hm
    · have := (List.pairwise_cons.mp T.uni).1 l' hl'
      exact fun z => this z.symm
    · exact notes_cop h4 fun m hm => T.new _ List.mem_cons_self i s hs1 rfl m hm
theorem turn_end {R : Reg} {hs0 hs : List Hs} {k : Nat} {A0 : Hs} (T : Turn R hs0 k A0 hs []) : ∃ A, hs[k]? = some A ∧ A.there = A0.there ∧ A.back = A0.back ∧ A.came = A0.came ∧ A.tied = A0.tied ∧ (∀ B ∈ A.tied, ∀ m ∈ mks A.there, m ∈ A.sett B) ∧ ∀ B ∈ A.tied, ∀ m ∈ A.back, m ∈ A.awar B := by
  obtain ⟨A, hA, m1, m2, m3, m4, m5, m6, m7, m8⟩ := T.me
  refine ⟨A, hA, m1, m2, m3, m4, fun B hB m hm => ?_, fun B hB m hm => ?_⟩
  · rw [m4] at hB
    rw [m1] at hm
    by_cases h : m ∈ A.sett B
    · exact h
    · obtain ⟨l, hl, _⟩ := m7 B hB m hm h
      simp at hl
  · rw [m4] at hB
    rw [m2] at hm
    by_cases h : m ∈ A.awar B
    · exact h
    · obtain ⟨l, hl, _⟩ := m8 B hB m hm h
      simp at hl
end NF
set_option linter.all false
namespace NF
theorem countP_le {α : Type} {p q : α → Bool} : ∀ {l l' : List α}, l'.length = l.length → (∀ (i : Nat) x y, l[i]? = some x → l'[i]? = some y → p x = true → q y = true) → l.countP p ≤ l'.countP q
  | [], l', _, _ => by simp
  | x :: l, [], h, _ => by simp at h
  | x :: l, y :: l', h, hp => by
    have ih := countP_le (l := l) (l' := l') (by simpa using h) fun i a b ha hb => hp (i + 1) a b (by simpa using ha) (by simpa using hb)
    have h0 := hp 0 x y (by simp) (by simp)
    rw [List.countP_cons, List.countP_cons]
    by_cases c : p x = true
    · rw [if_pos c, if_pos (h0 c)]; omega
    · rw [if_neg c]; split <;> omega
theorem countP_lt {α : Type} {p q : α → Bool} : ∀ {l l' : List α}, l'.length = l.length → (∀ (i : Nat) x y, l[i]? = some x → l'[i]? = some y → p x = true → q y = true) → ∀ (j : Nat) x y, l[j]? = some x → l'[j]? = some y → ¬ p x = true → q y = true → l.countP p + 1 ≤ l'.countP q
  | [], l', _, _, j, x, y, h, _, _, _ => by simp at h
  | x :: l, [], h, _, j, _, _, _, h2, _, _ => by simp at h2
  | x :: l, y :: l', h, hp, j, a, b, ha, hb, hna, hqb => by
    have hp' : ∀ (i : Nat) a b, l[i]? = some a → l'[i]? = some b → p a = true → q b = true := fun i a b ha hb => hp (i + 1) a b (by simpa using ha) (by simpa using hb)
    have h0 := hp 0 x y (by simp) (by simp)
    rw [List.countP_cons, List.countP_cons]
    cases j with
    | zero =>
      simp only [List.getElem?_cons_zero, Option.some.injEq] at ha hb
      subst ha
      subst hb
      have := countP_le (l := l) (l' := l') (by simpa using h) hp'
      rw [if_neg hna, if_pos hqb]
      omega
    | succ j =>
      simp only [List.getElem?_cons_succ] at ha hb
      have ih := countP_lt (l := l) (l' := l') (by simpa using h) hp' j a b ha hb hna hqb
      by_cases c : p x = true
      · rw [if_pos c, if_pos (h0 c)]; omega
      · rw [if_neg c]; split <;> omega
def cnt (hs : List Hs) (m : Mark) : Nat := hs.countP fun s => decide (m ∈ s.came)
def cntB (hs : List Hs) (m : Mark) : Nat := hs.countP fun s => decide (m ∈ s.back)
structure Turned (R : Reg) (hs hs' : List Hs) (k : Nat) (A0 : Hs) : Prop where
  len : hs'.length = hs.length
  stp : ∀ (j : Nat) B, hs[j]? = some B → ∃ B', hs'[j]? = some B' ∧ Step R B B'
  cam : ∀ (j : Nat) B B', hs[j]? = some B → hs'[j]? = some B' → ∀ m ∈ B'.came, m ∈ B.came ∨ (j ≠ k ∧ (j : Int) ∈ A0.tied ∧ m ∈ mks A0.there ∧ m ∉ A0.sett j)
  bak : ∀ (j : Nat) B B', hs[j]? = some B → hs'[j]? = some B' → ∀ m ∈ B'.back, m ∈ B.back ∨ (j ≠ k ∧ (j : Int) ∈ A0.tied ∧ m ∈ A0.back ∧ m ∉ A0.awar j)
  cop : ∀ (j : Nat) B B', hs[j]? = some B → hs'[j]? = some B' → B'.copies - B.copies = (B'.came.length : Int) - B.came.length
  don : ∀ A, hs'[k]? = some A → (∀ B ∈ A.tied, ∀ m ∈ mks A.there, m ∈ A.sett B) ∧ ∀ B ∈ A.tied, ∀ m ∈ A.back, m ∈ A.awar B
theorem turn_turned {R : Reg} {hs hs' : List Hs} {k : Nat} {A0 : Hs} (T : Turn R hs k A0 hs' []) : Turned R hs hs' k A0 := by
  obtain ⟨A, hA, e1, e2, e3, e4, d1, d2⟩ := turn_end T
  have stp : ∀ (j : Nat) B, hs[j]? = some B → ∃ B', hs'[j]? = some B' ∧ Step R B B' := fun j B hB => by
    have hl := (List.getElem?_eq_some_iff.mp hB).1
    rw [← T.len] at hl
    refine ⟨_, List.getElem?_eq_getElem hl, ?_⟩
    by_cases e : j = k
    · subst e
      have := T.at0
      rw [hB] at this
      obtain rfl := Option.some.inj this
      exact T.stk _ (List.getElem?_eq_getElem hl)
    · obtain ⟨B0, h1, h2, _⟩ := T.oth j _ e (List.getElem?_eq_getElem hl)
      rw [hB] at h1
      obtain rfl := Option.some.inj h1
      exact h2
  refine ⟨T.len, stp, fun j B B' hB hB' m hm => ?_, fun j B B' hB hB' m hm => ?_, fun j B B' hB hB' => T.cop j B' B hB' hB, fun A' hA' => ?_⟩
  · by_cases e : j = k
    · subst e
      rw [hA] at hB'
      obtain rfl := Option.some.inj hB'
      have := T.at0
      rw [hB] at this
      obtain rfl := Option.some.inj this
      exact .inl (e3 ▸ hm)
    · obtain ⟨B0, h1, h2, h3, h4⟩ := T.oth j B' e hB'
      rw [hB] at h1
      obtain rfl := Option.some.inj h1
      rcases h3 m hm with z | z
      · exact .inl z
      · exact .inr ⟨e, z⟩
  · by_cases e : j = k
    · subst e
      rw [hA] at hB'
      obtain rfl := Option.some.inj hB'
      have := T.at0
      rw [hB] at this
      obtain rfl := Option.some.inj this
      exact .inl (e2 ▸ hm)
    · obtain ⟨B0, h1, h2, h3, h4⟩ := T.oth j B' e hB'
      rw [hB] at h1
      obtain rfl := Option.some.inj h1
      rcases h4 m hm with z | z
      · exact .inl z
      · exact .inr ⟨e, z⟩
  · rw [hA] at hA'
    obtain rfl := Option.some.inj hA'
    exact ⟨d1, d2⟩
structure RInv (R : Reg) (hs : List Hs) (r k : Nat) : Prop where
  sys : Sys R hs
  both : Both hs
  nt : ∀ (i : Nat) A, hs[i]? = some A → ∀ B ∈ A.tied, ∀ m ∈ mks A.there, m ∉ A.sett B → r + (if i < k then 2 else 1) ≤ cnt hs m
  bt : ∀ (i : Nat) A, hs[i]? = some A → ∀ B ∈ A.tied, ∀ m ∈ A.back, m ∉ A.awar B → r + (if i < k then 2 else 1) ≤ cntB hs m
theorem rinv_start {R : Reg} {hs : List Hs} (h : Sys R hs) (b : Both hs) : RInv R hs 0 0 := by
  refine ⟨h, b, fun i A hA B hB m hm _ => ?_, fun i A hA B hB m hm _ => ?_⟩
  · rw [if_neg (by omega)]
    refine List.countP_pos_iff.mpr ⟨A, List.mem_of_getElem? hA, decide_eq_true ?_⟩
    obtain ⟨v, hv⟩ := mem_mks.mp hm
    exact (h.one i A hA).ok.tc _ hv
  · rw [if_neg (by omega)]
    exact List.countP_pos_iff.mpr ⟨A, List.mem_of_getElem? hA, decide_eq_true hm⟩
theorem rinv_round {R : Reg} {hs : List Hs} {r : Nat} (h : RInv R hs r hs.length) : RInv R hs (r + 1) 0 := by
  refine ⟨h.sys, h.both, fun i A hA B hB m hm hs' => ?_, fun i A hA B hB m hm hs' => ?_⟩
  · have := h.nt i A hA B hB m hm hs'
    rw [if_pos (List.getElem?_eq_some_iff.mp hA).1] at this
    rw [if_neg (by omega)]
    omega
  · have := h.bt i A hA B hB m hm hs'
    rw [if_pos (List.getElem?_eq_some_iff.mp hA).1] at this
    rw [if_neg (by omega)]
    omega
theorem rinv_turn {R : Reg} {hs hs' : List Hs} {r k : Nat} {A0 : Hs} (h : RInv R hs r k) (hk : hs[k]? = some A0) (hsys : Sys R hs') (hbo : Both hs') (T : Turned R hs hs' k A0) : RInv R hs' r (k + 1) := by
  have back : ∀ (j : Nat) B', hs'[j]? = some B' → ∃ B, hs[j]? = some B ∧ Step R B B' := fun j B' hB' => by
    have hl := (List.getElem?_eq_some_iff.mp hB').1
    rw [T.len] at hl
    obtain ⟨B'', h1, h2⟩ := T.stp j _ (List.getElem?_eq_getElem hl)
    rw [hB'] at h1
    obtain rfl := Option.some.inj h1
    exact ⟨_, List.getElem?_eq_getElem hl, h2⟩
  have mono : ∀ m, cnt hs m ≤ cnt hs' m := fun m => countP_le T.len fun i x y hx hy hp => by
    obtain ⟨y', h1, h2⟩ := T.stp i x hx
    rw [hy] at h1
    obtain rfl := Option.some.inj h1
    exact decide_eq_true (h2.cm m (of_decide_eq_true hp))
  have monoB : ∀ m, cntB hs m ≤ cntB hs' m := fun m => countP_le T.len fun i x y hx hy hp => by
    obtain ⟨y', h1, h2⟩ := T.stp i x hx
    rw [hy] at h1
    obtain rfl := Option.some.inj h1
    exact decide_eq_true (h2.back m (of_decide_eq_true hp))
  refine ⟨hsys, hbo, fun i A' hA' B hB m hm hs' => ?_, fun i A' hA' B hB m hm hs' => ?_⟩
  · obtain ⟨A, hA, st⟩ := back i A' hA'
    by_cases e : i = k
    · subst e
      exact absurd ((T.don A' hA').1 B hB m hm) hs'
    · obtain ⟨v, hv⟩ := mem_mks.mp hm
      have hc := (hsys.one i A' hA').ok.tc _ hv
      rcases T.cam i A A' hA hA' m hc with z | ⟨_, z1, z2, z3⟩
      · have hmt : m ∈ mks A.there := by
          rcases st.there m hm with w | w
          · exact w
          · obtain ⟨fr, ef⟩ := st.came
            have hnd := (hsys.one i A' hA').ok.cnd
            rw [ef, List.drop_left] at w
            rw [ef] at hnd
            exact absurd rfl ((List.nodup_append.mp hnd).2.2 m z m w)
        have h1 := h.nt i A hA B (st.tied ▸ hB) m hmt fun w => hs' (st.sett B m w)
        have := mono m
        split <;> split at h1 <;> omega
      · have h1 := h.nt k A0 hk i z1 m z2 z3
        rw [if_neg (by omega)] at h1
        by_cases hcA : m ∈ A.came
        · have hmt : m ∈ mks A.there := by
            rcases st.there m hm with w | w
            · exact w
            · obtain ⟨fr, ef⟩ := st.came
              have hnd := (hsys.one i A' hA').ok.cnd
              rw [ef, List.drop_left] at w
              rw [ef] at hnd
              exact absurd rfl ((List.nodup_append.mp hnd).2.2 m hcA m w)
          have h1 := h.nt i A hA B (st.tied ▸ hB) m hmt fun w => hs' (st.sett B m w)
          have := mono m
          split <;> split at h1 <;> omega
        · have h2 : cnt hs m + 1 ≤ cnt _ m := countP_lt T.len (fun i x y hx hy hp => by
            obtain ⟨y', h1, h2⟩ := T.stp i x hx
            rw [hy] at h1
            obtain rfl := Option.some.inj h1
            exact decide_eq_true (h2.cm m (of_decide_eq_true hp))) i A A' hA hA' (by simpa using hcA) (decide_eq_true hc)
          split <;> omega
  · obtain ⟨A, hA, st⟩ := back i A' hA'
    by_cases e : i = k
    · subst e
      exact absurd ((T.don A' hA').2 B hB m hm) hs'
    · by_cases hcA : m ∈ A.back
      · have h1 := h.bt i A hA B (st.tied ▸ hB) m hcA fun w => hs' (st.awar B m w)
        have := monoB m
        split <;> split at h1 <;> omega
      · rcases T.bak i A A' hA hA' m hm with z | ⟨_, z1, z2, z3⟩
        · exact absurd z hcA
        · have h1 := h.bt k A0 hk i z1 m z2 z3
          rw [if_neg (by omega)] at h1
          have h2 : cntB hs m + 1 ≤ cntB _ m := countP_lt T.len (fun i x y hx hy hp => by
            obtain ⟨y', h1, h2⟩ := T.stp i x hx
            rw [hy] at h1
            obtain rfl := Option.some.inj h1
            exact decide_eq_true (h2.back m (of_decide_eq_true hp))) i A A' hA hA' (by simpa using hcA) (decide_eq_true hm)
          split <;> omega
def Rest (hs : List Hs) : Prop := ∀ (i : Nat) A, hs[i]? = some A → (∀ B ∈ A.tied, ∀ m ∈ mks A.there, m ∈ A.sett B) ∧ ∀ B ∈ A.tied, ∀ m ∈ A.back, m ∈ A.awar B
theorem rinv_rest {R : Reg} {hs : List Hs} (h : RInv R hs hs.length 0) : Rest hs := by
  refine fun i A hA => ⟨fun B hB m hm => ?_, fun B hB m hm => ?_⟩
  · by_cases c : m ∈ A.sett B
    · exact c
    · have h1 := h.nt i A hA B hB m hm c
      have h2 : cnt hs m ≤ hs.length := List.countP_le_length
      rw [if_neg (by omega)] at h1
      omega
  · by_cases c : m ∈ A.awar B
    · exact c
    · have h1 := h.bt i A hA B hB m hm c
      have h2 : cntB hs m ≤ hs.length := List.countP_le_length
      rw [if_neg (by omega)] at h1
      omega
theorem tell_rest {A : Hs} {o : Int} (h1 : ∀ m ∈ mks A.there, m ∈ A.sett o) (h2 : ∀ m ∈ A.back, m ∈ A.awar o) : A.tell o = [] := by
  unfold Hs.tell
  rw [if_pos]
  constructor
  · rw [← List.map_eq_nil_iff (f := fun p : Mark × Int => p.1), List.eq_nil_iff_forall_not_mem]
    intro m hm
    obtain ⟨q1, q2⟩ := mem_ends.mp hm
    exact q2 (h1 m q1)
  · rw [List.eq_nil_iff_forall_not_mem]
    intro m hm
    obtain ⟨q1, q2⟩ := mem_backs.mp hm
    exact q2 (h2 m q1)
theorem letters_rest {A : Hs} {ts : List Int} (h : ∀ o ∈ ts, A.tell o = []) : A.letters ts = [] := by
  unfold Hs.letters
  rw [List.flatMap_eq_nil_iff]
  exact h
theorem rest_letters {hs : List Hs} (h : Rest hs) {i : Nat} {A : Hs} (hA : hs[i]? = some A) {ts : List Int} (ht : ∀ o ∈ ts, o ∈ A.tied) : A.letters ts = [] :=
  letters_rest fun o ho => tell_rest ((h i A hA).1 o (ht o ho)) ((h i A hA).2 o (ht o ho))
theorem quiet_rest {A : Hs} {ts : List Int} (ht : ts.Perm A.tied) (h : A.letters ts = []) : (∀ B ∈ A.tied, ∀ m ∈ mks A.there, m ∈ A.sett B) ∧ ∀ B ∈ A.tied, ∀ m ∈ A.back, m ∈ A.awar B := by
  have key : ∀ B ∈ A.tied, A.ends B = [] ∧ A.backs B = [] := fun B hB => by
    have := List.flatMap_eq_nil_iff.mp h B (ht.mem_iff.mpr hB)
    unfold Hs.tell at this
    split at this
    · rename_i q
      exact q
    · simp at this
  refine ⟨fun B hB m hm => ?_, fun B hB m hm => ?_⟩
  · by_cases c : m ∈ A.sett B
    · exact c
    · have := mem_ends.mpr ⟨hm, c⟩
      rw [(key B hB).1] at this
      simp at this
  · by_cases c : m ∈ A.awar B
    · exact c
    · have := mem_backs.mpr ⟨hm, c⟩
      rw [(key B hB).2] at this
      simp at this
theorem rest_back {R : Reg} {hs : List Hs} (h : Sys R hs) (r : Rest hs) {i j : Nat} {A B : Hs} (hA : hs[i]? = some A) (hB : hs[j]? = some B) (ht : (j : Int) ∈ A.tied) : ∀ m ∈ A.back, m ∈ B.back :=
  fun m hm => h.av i j A B hA hB m ((r i A hA).2 j ht m hm)
theorem rest_there {R : Reg} {hs : List Hs} (h : Sys R hs) (b : Both hs) (r : Rest hs) {i j : Nat} {A B : Hs} (hA : hs[i]? = some A) (hB : hs[j]? = some B) (ht : (j : Int) ∈ A.tied) (hd : A.day = B.day) : ∀ t ∈ A.there, t ∈ B.there := by
  intro t htm
  have oA := (h.one i A hA).ok
  have oB := (h.one j B hB).ok
  have nb : t.1 ∉ B.back := fun z => oA.tb t htm (rest_back h r hB hA (b i j A B hA hB ht) _ z)
  have ne : ∀ v, R.wr t.1 = some v → ¬ v.2 ≤ B.day := fun v hv z => by
    have e := oA.tw t htm
    rw [hv] at e
    obtain rfl := Option.some.inj e
    have := oA.te t htm
    omega
  rcases h.sv i j A B hA hB t.1 ((r i A hA).1 j ht _ (List.mem_map_of_mem htm)) with z | z | ⟨v, z1, z2⟩
  · rcases oB.ct t.1 z t.2 (oA.tw t htm) with w | w | w
    · obtain ⟨u, hu⟩ := mem_mks.mp w
      have e := oB.tw _ hu
      rw [oA.tw t htm] at e
      obtain e := Option.some.inj e
      rw [show t = (t.1, u) from Prod.ext rfl e]
      exact hu
    · exact absurd w nb
    · exact absurd w (ne _ (oA.tw t htm))
  · exact absurd z nb
  · exact absurd z2 (ne v z1)
inductive Path (hs : List Hs) : Nat → Nat → Prop where
  | refl (i : Nat) : i < hs.length → Path hs i i
  | step {i j k : Nat} {A : Hs} : hs[i]? = some A → (j : Int) ∈ A.tied → Path hs j k → Path hs i k
theorem Path.lt {hs : List Hs} {i j : Nat} (p : Path hs i j) : i < hs.length ∧ j < hs.length := by
  induction p with
  | refl i h => exact ⟨h, h⟩
  | step hA _ _ ih => exact ⟨(List.getElem?_eq_some_iff.mp hA).1, ih.2⟩
theorem Path.trans {hs : List Hs} {i j k : Nat} (p : Path hs i j) (q : Path hs j k) : Path hs i k := by
  induction p with
  | refl i h => exact q
  | step hA ht _ ih => exact .step hA ht (ih q)
theorem Path.symm {hs : List Hs} (b : Both hs) {i j : Nat} (p : Path hs i j) : Path hs j i := by
  induction p with
  | refl i h => exact .refl i h
  | @step i j k A hA ht p ih =>
    have hj := List.getElem?_eq_getElem p.lt.1
    exact ih.trans (.step hj (b i j A _ hA hj ht) (.refl i (List.getElem?_eq_some_iff.mp hA).1))
theorem rest_path {R : Reg} {hs : List Hs} (h : Sys R hs) (b : Both hs) (r : Rest hs) {i j : Nat} (p : Path hs i j) {d : Int} (hd : ∀ (k : Nat) S, Path hs i k → hs[k]? = some S → S.day = d) {A B : Hs} (hA : hs[i]? = some A) (hB : hs[j]? = some B) : ∀ t ∈ A.there, t ∈ B.there := by
  induction p generalizing A with
  | refl i hi =>
    rw [hA] at hB
    obtain rfl := Option.some.inj hB
    exact fun _ h => h
  | @step i j k A' hA' ht p ih =>
    rw [hA] at hA'
    obtain rfl := Option.some.inj hA'
    have hj := List.getElem?_eq_getElem p.lt.1
    intro t htm
    refine ih (fun k S q hS => hd k S (.step hA ht q) hS) hj hB t (rest_there h b r hA hj ht ?_ t htm)
    rw [hd _ _ (.refl i (List.getElem?_eq_some_iff.mp hA).1) hA, hd _ _ (.step hA ht (.refl j p.lt.1)) hj]
theorem rest_path_back {R : Reg} {hs : List Hs} (h : Sys R hs) (r : Rest hs) {i j : Nat} (p : Path hs i j) {A B : Hs} (hA : hs[i]? = some A) (hB : hs[j]? = some B) : ∀ m ∈ A.back, m ∈ B.back := by
  induction p generalizing A with
  | refl i hi =>
    rw [hA] at hB
    obtain rfl := Option.some.inj hB
    exact fun _ h => h
  | @step i j k A' hA' ht p ih =>
    rw [hA] at hA'
    obtain rfl := Option.some.inj hA'
    have hj := List.getElem?_eq_getElem p.lt.1
    exact fun m hm => ih hj hB m (rest_back h r hA hj ht m hm)
end NF
set_option linter.all false
namespace NF
theorem len_of_nodup {α : Type} [DecidableEq α] : ∀ {l m : List α}, l.Nodup → (∀ x ∈ l, x ∈ m) → l.length ≤ m.length
  | [], _, _, _ => Nat.zero_le _
  | x :: l, m, hn, hs => by
    obtain ⟨h1, h2⟩ := List.nodup_cons.mp hn
    have hx := hs x List.mem_cons_self
    have ih := len_of_nodup (l := l) (m := m.erase x) h2 fun y hy => (List.mem_erase_of_ne (show y ≠ x from fun e => h1 (e ▸ hy))).2 (hs y (List.mem_cons_of_mem _ hy))
    have := List.length_erase_of_mem hx
    have := List.length_pos_of_mem hx
    rw [List.length_cons]
    omega
structure Fits (M : List Mark) (s : Hs) : Prop where
  came : ∀ m ∈ s.came, m ∈ M
  back : ∀ m ∈ s.back, m ∈ M
  sett : ∀ o, ∀ m ∈ s.sett o, m ∈ M
  awar : ∀ o, ∀ m ∈ s.awar o, m ∈ M
  there : ∀ m ∈ mks s.there, m ∈ M
  nc : s.came.Nodup
  nb : s.back.Nodup
  ns : ∀ o, (s.sett o).Nodup
  na : ∀ o, (s.awar o).Nodup
  nt : (mks s.there).Nodup
theorem Fits.lc {M : List Mark} {s : Hs} (F : Fits M s) : s.came.length ≤ M.length := len_of_nodup F.nc F.came
theorem Fits.lb {M : List Mark} {s : Hs} (F : Fits M s) : s.back.length ≤ M.length := len_of_nodup F.nb F.back
theorem Fits.ls {M : List Mark} {s : Hs} (F : Fits M s) (o : Int) : (s.sett o).length ≤ M.length := len_of_nodup (F.ns o) (F.sett o)
theorem Fits.la {M : List Mark} {s : Hs} (F : Fits M s) (o : Int) : (s.awar o).length ≤ M.length := len_of_nodup (F.na o) (F.awar o)
theorem Fits.lt {M : List Mark} {s : Hs} (F : Fits M s) : s.there.length ≤ M.length := by
  have := len_of_nodup F.nt F.there
  simpa [mks] using this
def MsgIn (M : List Mark) : Msg → Prop
  | .news _ es bs => (∀ p ∈ es, p.1 ∈ M) ∧ es.length ≤ M.length ∧ (∀ m ∈ bs, m ∈ M) ∧ bs.length ≤ M.length
  | .reply _ nl bs ws => (∀ m ∈ nl, m ∈ M) ∧ nl.length ≤ M.length ∧ (∀ m ∈ bs, m ∈ M) ∧ bs.length ≤ M.length ∧ (∀ m ∈ ws, m ∈ M) ∧ ws.length ≤ M.length
  | .notes _ ts => (∀ t ∈ ts, t.1 ∈ M) ∧ ts.length ≤ M.length
theorem Fits.mono {M N : List Mark} {s : Hs} (F : Fits M s) (h : ∀ m ∈ M, m ∈ N) : Fits N s :=
  { F with came := fun m hm => h m (F.came m hm), back := fun m hm => h m (F.back m hm), sett := fun o m hm => h m (F.sett o m hm), awar := fun o m hm => h m (F.awar o m hm), there := fun m hm => h m (F.there m hm) }
theorem MsgIn.mono {M N : List Mark} {a : Msg} (F : MsgIn M a) (h : ∀ m ∈ M, m ∈ N) (hl : M.length ≤ N.length) : MsgIn N a := by
  cases a with
  | news o es bs => exact ⟨fun p hp => h _ (F.1 p hp), Nat.le_trans F.2.1 hl, fun m hm => h m (F.2.2.1 m hm), Nat.le_trans F.2.2.2 hl⟩
  | reply o nl bs ws => exact ⟨fun p hp => h _ (F.1 p hp), Nat.le_trans F.2.1 hl, fun m hm => h m (F.2.2.1 m hm), Nat.le_trans F.2.2.2.1 hl, fun m hm => h m (F.2.2.2.2.1 m hm), Nat.le_trans F.2.2.2.2.2 hl⟩
  | notes o ts => exact ⟨fun p hp => h _ (F.1 p hp), Nat.le_trans F.2 hl⟩
theorem fits_new (M : List Mark) (n k : Int) : Fits M (Hs.new n k) := ⟨by simp [Hs.new], by simp [Hs.new], by simp [Hs.new], by simp [Hs.new], by simp [Hs.new, mks], by simp [Hs.new], by simp [Hs.new], by simp [Hs.new], by simp [Hs.new], by simp [Hs.new, mks]⟩
section
variable {M : List Mark} {s : Hs}
theorem setI_nodup {f : Int → List Mark} {i : Int} {x : Mark} (h : ∀ o, (f o).Nodup) (o : Int) : (setI f i (ins (f i) x) o).Nodup := by
  unfold setI
  split
  · exact ins_nodup (h i)
  · exact h o
theorem fits_settle (F : Fits M s) (o : Int) {m : Mark} (hm : m ∈ M) : Fits M (s.settle1 o m) :=
  { F with
    sett := fun j k hk => by
      rcases mem_setI_iff.mp hk with z | ⟨_, z⟩
      · exact F.sett j k z
      · exact z ▸ hm
    ns := setI_nodup F.ns }
theorem fits_aware (F : Fits M s) (o : Int) {m : Mark} (hm : m ∈ M) : Fits M (s.aware1 o m) :=
  { F with
    awar := fun j k hk => by
      rcases mem_setI_iff.mp hk with z | ⟨_, z⟩
      · exact F.awar j k z
      · exact z ▸ hm
    na := setI_nodup F.na }
theorem fits_drop (F : Fits M s) {m : Mark} (hm : m ∈ M) : Fits M (s.drop m) :=
  { F with
    back := fun k hk => by
      rcases mem_ins.mp hk with z | z
      · exact F.back k z
      · exact z ▸ hm
    nb := ins_nodup F.nb
    there := fun k hk => F.there k (mks_dropN.mp hk).1
    nt := mks_filter F.nt }
theorem putN_mks {l : List Note} {m : Mark} {w e : Int} : mks (putN l m w e) = if m ∈ mks l then mks l else mks l ++ [m] := by
  by_cases h : m ∈ mks l
  · rw [if_pos h]
    unfold putN
    have : (l.any fun t => decide (t.1 = m)) = true := by
      obtain ⟨v, hv⟩ := mem_mks.mp h
      exact List.any_eq_true.mpr ⟨_, hv, by simp⟩
    rw [if_pos this]
    unfold mks
    rw [List.map_map]
    refine List.map_congr_left fun t _ => ?_
    simp only [Function.comp_apply]
    split <;> rfl
  · rw [if_neg h, putN_new h]
    unfold mks
    rw [List.map_append]
    rfl
theorem fits_take (F : Fits M s) {m : Mark} (hm : m ∈ M) (w e : Int) : Fits M (s.take m w e) :=
  { F with
    came := fun k hk => by
      rcases mem_ins.mp hk with z | z
      · exact F.came k z
      · exact z ▸ hm
    nc := ins_nodup F.nc
    there := fun k hk => by
      have hk' : k ∈ mks (putN s.there m w e) := hk
      rw [putN_mks] at hk'
      split at hk'
      · exact F.there k hk'
      · rcases List.mem_append.mp hk' with z | z
        · exact F.there k z
        · exact (List.mem_singleton.mp z) ▸ hm
    nt := by
      show (mks (putN s.there m w e)).Nodup
      rw [putN_mks]
      split
      · exact F.nt
      · rename_i h
        exact List.nodup_append.mpr ⟨F.nt, by simp, fun a ha b hb => by
          rw [List.mem_singleton] at hb
          subst hb
          exact fun z => h (z ▸ ha)⟩ }
theorem fits_fold {α : Type} {f : Hs → α → Hs} {l : List α} (hf : ∀ s, ∀ a ∈ l, Fits M s → Fits M (f s a)) (F : Fits M s) : Fits M (l.foldl f s) := by
  induction l generalizing s with
  | nil => exact F
  | cons a l ih => exact ih (fun s b hb => hf s b (by simp [hb])) (hf s a (by simp) F)
theorem fits_newsBack (F : Fits M s) (o : Int) {m : Mark} (hm : m ∈ M) : Fits M (s.newsBack o m) := fits_drop (fits_aware F o hm) hm
theorem fits_takeNote (F : Fits M s) {t : Note} (ht : t.1 ∈ M) : Fits M (s.takeNote t) := by
  unfold Hs.takeNote
  split
  · exact F
  · split
    · exact { F with }
    · exact fits_take (s := { s with copies := s.copies + 1 }) { F with } ht _ _
theorem fits_hear (F : Fits M s) {a : Msg} (ha : MsgIn M a) : Fits M (s.hear a).1 := by
  cases a with
  | news o es bs => exact fits_fold (fun s p hp F => fits_settle F o (ha.1 p hp)) (fits_fold (fun s m hm F => fits_newsBack F o (ha.2.2.1 m hm)) F)
  | reply o nl bs ws => exact fits_fold (fun s m hm F => fits_aware F o (ha.2.2.1 m hm)) (fits_fold (fun s m hm F => fits_settle F o (ha.1 m hm)) F)
  | notes o ts => exact fits_fold (fun s t ht F => fits_takeNote F (ha.1 t ht)) F
theorem ends_len (s : Hs) (o : Int) : (s.ends o).length ≤ s.there.length := by
  unfold Hs.ends
  rw [List.length_map]
  exact List.length_filter_le _ _
theorem backs_len (s : Hs) (o : Int) : (s.backs o).length ≤ s.back.length := List.length_filter_le _ _
theorem in_tell (F : Fits M s) (o : Int) : MsgIn M (.news s.num (s.ends o) (s.backs o)) := by
  refine ⟨fun p hp => ?_, Nat.le_trans (ends_len s o) F.lt, fun m hm => F.back m (mem_backs.mp hm).1, Nat.le_trans (backs_len s o) F.lb⟩
  exact F.there _ (mem_ends.mp (List.mem_map_of_mem hp)).1
theorem in_letters (F : Fits M s) (ts : List Int) : ∀ l ∈ s.letters ts, MsgIn M l.2 := fun l hl => by
  obtain ⟨o, _, rfl⟩ := letters_mem hl
  exact in_tell F o
theorem handed_len (s : Hs) (o : Int) (ws : List Mark) : (s.handed o ws).length ≤ ws.length := by
  have := (handed_sub s o ws).length_le
  simpa [mks] using this
theorem in_hear (F : Fits M s) {a : Msg} (ha : MsgIn M a) : ∀ l ∈ (s.hear a).2, MsgIn M l.2 := fun l hl => by
  cases a with
  | news o es bs =>
    obtain ⟨_, h2, _⟩ := answer_mem (s := (s.hearNews o es bs).1) (o := o) (a := some (s.hearNews o es bs).2) hl
    rw [← Option.some.inj h2]
    refine ⟨fun m hm => ?_, ?_, ha.2.2.1, ha.2.2.2, fun m hm => ?_, ?_⟩
    · obtain ⟨p, hp, rfl⟩ := List.mem_map.mp hm
      exact ha.1 p (List.mem_filter.mp hp).1
    · rw [List.length_map]
      exact Nat.le_trans (List.length_filter_le _ _) ha.2.1
    · obtain ⟨p, hp, rfl⟩ := List.mem_map.mp hm
      exact ha.1 p (List.mem_filter.mp hp).1
    · rw [List.length_map]
      exact Nat.le_trans (List.length_filter_le _ _) ha.2.1
  | reply o nl bs ws =>
    obtain ⟨_, h2, _⟩ := answer_mem (s := (s.hearReply o nl bs ws).1) (o := o) (a := (s.hearReply o nl bs ws).2) hl
    have h3 : (if (s.heard o nl bs).handed o ws = [] then none else some (Msg.notes s.num ((s.heard o nl bs).handed o ws))) = some l.2 := h2
    split at h3
    · cases h3
    · rw [← Option.some.inj h3]
      exact ⟨fun t ht => ha.2.2.2.2.1 _ (handed_mem ht).1, Nat.le_trans (handed_len _ _ _) ha.2.2.2.2.2⟩
  | notes o ts =>
    obtain ⟨_, h2, _⟩ := answer_mem (s := (s.hearNotes ts).1) (o := o) (a := some (s.hearNotes ts).2) hl
    rw [← Option.some.inj h2]
    refine ⟨fun m hm => ?_, by rw [List.length_map]; exact ha.2, by simp, by simp, by simp, by simp⟩
    obtain ⟨t, ht, rfl⟩ := List.mem_map.mp hm
    exact ha.1 t ht
theorem fits_day (F : Fits M s) (d : Int) : Fits M (s.setDay d) :=
  { F with
    there := fun k hk => by
      obtain ⟨v, hv⟩ := mem_mks.mp hk
      exact F.there k (mem_mks.mpr ⟨v, (List.mem_filter.mp hv).1⟩)
    nt := mks_filter F.nt }
theorem fits_write (F : Fits M s) (w l : Int) : Fits (M ++ [s.writeMark]) (s.write w l) :=
  fits_take (s := { s with next := s.next + 1 }) (Fits.mono { F with } fun m hm => List.mem_append_left _ hm) (by simp) _ _
theorem fits_callBack (F : Fits M s) {m : Mark} : Fits M (s.callBack m) := by
  unfold Hs.callBack
  split
  · rename_i h
    exact fits_drop F (F.there m (Hs.has_iff.mp h))
  · exact F
end
end NF
set_option Elab.async false
set_option linter.all false
set_option maxRecDepth 100000
set_option maxHeartbeats 1000000
namespace HW
open PySem L2 EE LW NF
abbrev nvE (v : Int × Int) : EV := .tup [.int v.1, .int v.2]
def cvM (l : List Mark) : List (EV × EV) := l.map fun m => (pairE m, .bl true)
def tvN (l : List Note) : List (EV × EV) := l.map fun t => (pairE t.1, nvE t.2)
def iv (l : List Int) : List (EV × EV) := l.map fun k => (.int k, .bl true)
def mkey (m : Mark) : List Key := [.inl m.1, .inl m.2]
theorem tkey_pair (m : Mark) : tkeyOf (pairE m) = some (mkey m) := rfl
theorem mkey_dec (a b : Mark) : decide (some (mkey a) = some (mkey b)) = decide (a = b) := by
  have : some (mkey a) = some (mkey b) ↔ a = b := by
    constructor
    · intro h
      simp only [mkey, Option.some.injEq, List.cons.injEq, Sum.inl.injEq, and_true] at h
      exact Prod.ext h.1 h.2
    · rintro rfl; rfl
  exact decide_eq_decide.mpr this
theorem find_map {α : Type} (f : α → EV × EV) (g : α → Mark) (hf : ∀ a, tkeyOf (f a).1 = some (mkey (g a))) (l : List α) (m : Mark) : (l.map f).find? (fun p => decide (tkeyOf p.1 = some (mkey m))) = (l.find? fun a => decide (g a = m)).map f := by
  induction l with
  | nil => rfl
  | cons a l ih =>
    rw [List.map_cons, List.find?_cons, List.find?_cons, hf, mkey_dec]
    by_cases e : g a = m
    · simp [e]
    · simp [e, ih]
theorem dval_cvM (l : List Mark) (m : Mark) : dval tkeyOf (cvM l) (mkey m) = if m ∈ l then some (.bl true) else none := by
  unfold dval cvM
  rw [find_map _ (fun m => m) (fun _ => rfl)]
  split
  · rename_i h
    obtain ⟨a, ha⟩ := Option.isSome_iff_exists.mp (List.find?_isSome.mpr ⟨m, h, by simp⟩ : (l.find? fun a => decide (a = m)).isSome = true)
    rw [ha]
    rfl
  · rename_i h
    rw [List.find?_eq_none.mpr]
    · rfl
    · intro x hx z
      rw [decide_eq_true_eq] at z
      exact h (z ▸ hx)
theorem dval_tvN (l : List Note) (m : Mark) : dval tkeyOf (tvN l) (mkey m) = (getN l m).map nvE := by
  unfold dval tvN getN
  rw [find_map _ (fun t => t.1) (fun _ => rfl), Option.map_map, Option.map_map]
  rfl
theorem any_map {α : Type} (f : α → EV × EV) (g : α → Mark) (hf : ∀ a, tkeyOf (f a).1 = some (mkey (g a))) (l : List α) (m : Mark) : (l.map f).any (fun p => decide (tkeyOf p.1 = some (mkey m))) = l.any fun a => decide (g a = m) := by
  rw [List.any_map]
  congr 1
  funext a
  simp only [Function.comp_apply, hf, mkey_dec]
theorem dput_cvM (l : List Mark) (m : Mark) : dput tkeyOf (cvM l) (mkey m) (pairE m) (.bl true) = cvM (ins l m) := by
  unfold dput
  have e : ((cvM l).any fun p => decide (tkeyOf p.1 = some (mkey m))) = l.any fun a => decide (a = m) := any_map _ (fun m => m) (fun _ => rfl) l m
  rw [e]
  by_cases h : m ∈ l
  · rw [if_pos (List.any_eq_true.mpr ⟨m, h, by simp⟩), ins_old h]
    unfold cvM
    rw [List.map_map]
    refine List.map_congr_left fun a _ => ?_
    simp only [Function.comp_apply]
    split <;> rfl
  · rw [if_neg, ins_new h]
    · unfold cvM
      rw [List.map_append]
      rfl
    · intro z
      obtain ⟨a, ha, hb⟩ := List.any_eq_true.mp z
      rw [decide_eq_true_eq] at hb
      exact h (hb ▸ ha)
theorem dput_tvN (l : List Note) (m : Mark) (w e : Int) : dput tkeyOf (tvN l) (mkey m) (pairE m) (nvE (w, e)) = tvN (putN l m w e) := by
  unfold dput putN
  have h : ((tvN l).any fun p => decide (tkeyOf p.1 = some (mkey m))) = l.any fun t => decide (t.1 = m) := any_map _ (fun t : Note => t.1) (fun _ => rfl) l m
  rw [h]
  split
  · unfold tvN
    rw [List.map_map, List.map_map]
    refine List.map_congr_left fun t _ => ?_
    simp only [Function.comp_apply]
    have : (tkeyOf (pairE t.1) = some (mkey m)) ↔ t.1 = m := by
      have := mkey_dec t.1 m
      rw [tkey_pair]
      simpa using this
    by_cases c : t.1 = m
    · rw [if_pos (this.mpr c), if_pos c]
    · rw [if_neg (fun z => c (this.mp z)), if_neg c]
  · unfold tvN
    rw [List.map_append]
    rfl
theorem ddrop_tvN (l : List Note) (m : Mark) : ddrop tkeyOf (tvN l) (mkey m) = tvN (dropN l m) := by
  unfold ddrop tvN dropN
  induction l with
  | nil => rfl
  | cons t l ih =>
    have : (decide (tkeyOf (pairE t.1) ≠ some (mkey m))) = decide (t.1 ≠ m) := by
      have := mkey_dec t.1 m
      rw [tkey_pair]
      simp only [ne_eq, decide_not, this]
    rw [List.map_cons, List.filter_cons, List.filter_cons, this]
    split
    · rw [List.map_cons, ih]
    · exact ih
theorem putE_cvM (l : List Mark) (m : Mark) : dputE true (cvM l) (pairE m) (.bl true) = some (cvM (ins l m)) := by
  rw [← dput_cvM]; rfl
theorem putE_tvN (l : List Note) (m : Mark) (w e : Int) : dputE true (tvN l) (pairE m) (nvE (w, e)) = some (tvN (putN l m w e)) := by
  rw [← dput_tvN]; rfl
theorem putE_tv2 (l : List Note) (m : Mark) (w e : Int) : dputE true (tvN l) (pairE m) (.tup [.int w, .int e]) = some (tvN (putN l m w e)) := putE_tvN l m w e
theorem getE_cvM (l : List Mark) (m : Mark) : dgetE true (cvM l) (pairE m) = some (if m ∈ l then some (.bl true) else none) := by
  rw [← dval_cvM]; rfl
theorem getE_tvN (l : List Note) (m : Mark) : dgetE true (tvN l) (pairE m) = some ((getN l m).map nvE) := by
  rw [← dval_tvN]; rfl
theorem keys_cvM (l : List Mark) : (cvM l).map (·.1) = l.map pairE := by
  unfold cvM; rw [List.map_map]; rfl
theorem keys_tvN (l : List Note) : (tvN l).map (·.1) = (mks l).map pairE := by
  unfold tvN mks; rw [List.map_map, List.map_map]; rfl
theorem keys_iv (l : List Int) : (iv l).map (·.1) = l.map EV.int := by
  unfold iv; rw [List.map_map]; rfl
theorem iv_key (a b : Int) : decide (keyOf (.int a) = some (Sum.inl b)) = decide (a = b) := by
  have : keyOf (.int a) = some (Sum.inl b) ↔ a = b := by
    show some (Sum.inl a) = some (Sum.inl b) ↔ a = b
    simp
  exact decide_eq_decide.mpr this
theorem getE_iv (l : List Int) (k : Int) : dgetE false (iv l) (.int k) = some (if k ∈ l then some (.bl true) else none) := by
  show some (dval keyOf (iv l) (.inl k)) = _
  congr 1
  unfold dval iv
  induction l with
  | nil => rfl
  | cons a l ih =>
    rw [List.map_cons, List.find?_cons, iv_key]
    by_cases e : a = k
    · simp [e]
    · simp only [e, decide_false]
      rw [ih]
      simp [Ne.symm e]
theorem dval_iv (l : List Int) (k : Int) : dval keyOf (iv l) (.inl k) = if k ∈ l then some (.bl true) else none := Option.some.inj (getE_iv l k)
theorem putE_iv (l : List Int) (k : Int) : dputE false (iv l) (.int k) (.bl true) = some (iv (if k ∈ l then l else l ++ [k])) := by
  show some (dput keyOf (iv l) (.inl k) (.int k) (.bl true)) = _
  congr 1
  unfold dput
  have e : ((iv l).any fun p => decide (keyOf p.1 = some (.inl k))) = l.any fun a => decide (a = k) := by
    unfold iv
    rw [List.any_map]
    congr 1
    funext a
    exact iv_key a k
  rw [e]
  by_cases h : k ∈ l
  · rw [if_pos (List.any_eq_true.mpr ⟨k, h, by simp⟩), if_pos h]
    unfold iv
    rw [List.map_map]
    refine List.map_congr_left fun a _ => ?_
    simp only [Function.comp_apply]
    split <;> rfl
  · rw [if_neg, if_neg h]
    · unfold iv
      rw [List.map_append]
      rfl
    · intro z
      obtain ⟨a, ha, hb⟩ := List.any_eq_true.mp z
      rw [decide_eq_true_eq] at hb
      exact h (hb ▸ ha)
theorem ddrop_iv (l : List Int) (k : Int) : ddrop keyOf (iv l) (.inl k) = iv (l.filter fun j => decide (j ≠ k)) := by
  unfold ddrop iv
  induction l with
  | nil => rfl
  | cons a l ih =>
    have : (decide (keyOf (.int a) ≠ some (.inl k))) = decide (a ≠ k) := by
      simp only [ne_eq, decide_not, iv_key]
    rw [List.map_cons, List.filter_cons, List.filter_cons, this]
    split
    · rw [List.map_cons, ih]
    · exact ih
@[simp] theorem len_cvM (l : List Mark) : (cvM l).length = l.length := by simp [cvM]
@[simp] theorem len_tvN (l : List Note) : (tvN l).length = l.length := by simp [tvN]
@[simp] theorem len_iv (l : List Int) : (iv l).length = l.length := by simp [iv]
structure Rf where
  o : Nat
  td : Nat
  cd : Nat
  th : Nat
  bk : Nat
  se : Nat
  aw : Nat
  ss : List Nat
  as : List Nat
  deriving Inhabited
def Rf.own (r : Rf) : List Nat := r.o :: r.td :: r.cd :: r.th :: r.bk :: r.se :: r.aw :: (r.ss ++ r.as)
abbrev hf (s : Hs) (r : Rf) : List (Option EV) :=
  [some (.int s.num), some (.int s.many), some (.int s.day), some (.int s.next), some (.int s.copies), some (.ref r.td), some (.ref r.cd), some (.ref r.th), some (.ref r.bk), some (.ref r.se), some (.ref r.aw)]
structure Ho (h : EH) (r : Rf) (s : Hs) : Prop where
  ob : h[r.o]? = some (.obj 0 (hf s r))
  tied : h[r.td]? = some (.dic false (iv s.tied))
  came : h[r.cd]? = some (.dic true (cvM s.came))
  there : h[r.th]? = some (.dic true (tvN s.there))
  back : h[r.bk]? = some (.dic true (cvM s.back))
  se : h[r.se]? = some (.lst (r.ss.map .ref))
  aw : h[r.aw]? = some (.lst (r.as.map .ref))
  sl : (r.ss.length : Int) = s.many
  al : (r.as.length : Int) = s.many
  ss : ∀ (i : Nat) k, r.ss[i]? = some k → h[k]? = some (.dic true (cvM (s.sett i)))
  as : ∀ (i : Nat) k, r.as[i]? = some k → h[k]? = some (.dic true (cvM (s.awar i)))
  nd : r.own.Nodup
theorem set_at {h : EH} {a b : Nat} {x y : EO} (ha : h[a]? = some x) (hne : b ≠ a) : (h.set b y)[a]? = some x := by
  rw [List.getElem?_set_ne hne]
  exact ha
theorem set_self {h : EH} {a : Nat} {x y : EO} (ha : h[a]? = some x) : (h.set a y)[a]? = some y := List.getElem?_set_self (List.getElem?_eq_some_iff.mp ha).1
theorem Ho.lt {h : EH} {r : Rf} {s : Hs} (H : Ho h r s) : ∀ n ∈ r.own, n < h.length := by
  intro n hn
  simp only [Rf.own, List.mem_cons, List.mem_append] at hn
  rcases hn with rfl | rfl | rfl | rfl | rfl | rfl | rfl | hn | hn
  · exact (List.getElem?_eq_some_iff.mp H.ob).1
  · exact (List.getElem?_eq_some_iff.mp H.tied).1
  · exact (List.getElem?_eq_some_iff.mp H.came).1
  · exact (List.getElem?_eq_some_iff.mp H.there).1
  · exact (List.getElem?_eq_some_iff.mp H.back).1
  · exact (List.getElem?_eq_some_iff.mp H.se).1
  · exact (List.getElem?_eq_some_iff.mp H.aw).1
  · obtain ⟨i, hi⟩ := List.getElem?_of_mem hn
    exact (List.getElem?_eq_some_iff.mp (H.ss i n hi)).1
  · obtain ⟨i, hi⟩ := List.getElem?_of_mem hn
    exact (List.getElem?_eq_some_iff.mp (H.as i n hi)).1
theorem Ho.fr {h h' : EH} {r : Rf} {s : Hs} {X : List Nat} (H : Ho h r s) (f : Fr X h h') (hx : ∀ n ∈ r.own, n ∉ X) : Ho h' r s := by
  have ho : ∀ n ∈ r.own, ∀ o, h[n]? = some o → h'[n]? = some o := fun n hn o e => f.at e (hx n hn)
  refine ⟨ho _ (by simp [Rf.own]) _ H.ob, ho _ (by simp [Rf.own]) _ H.tied, ho _ (by simp [Rf.own]) _ H.came, ho _ (by simp [Rf.own]) _ H.there, ho _ (by simp [Rf.own]) _ H.back, ho _ (by simp [Rf.own]) _ H.se, ho _ (by simp [Rf.own]) _ H.aw, H.sl, H.al, fun i k hk => ?_, fun i k hk => ?_, H.nd⟩
  · exact ho _ (by simp [Rf.own, List.mem_of_getElem? hk]) _ (H.ss i k hk)
  · exact ho _ (by simp [Rf.own, List.mem_of_getElem? hk]) _ (H.as i k hk)
theorem Ho.fr0 {h h' : EH} {r : Rf} {s : Hs} (H : Ho h r s) (f : Fr [] h h') : Ho h' r s := H.fr f fun _ _ => by simp
theorem own_ne {r : Rf} (nd : r.own.Nodup) : (r.o ≠ r.td ∧ r.o ≠ r.cd ∧ r.o ≠ r.th ∧ r.o ≠ r.bk ∧ r.o ≠ r.se ∧ r.o ≠ r.aw) ∧ (r.td ≠ r.cd ∧ r.td ≠ r.th ∧ r.td ≠ r.bk ∧ r.td ≠ r.se ∧ r.td ≠ r.aw) ∧ (r.cd ≠ r.th ∧ r.cd ≠ r.bk ∧ r.cd ≠ r.se ∧ r.cd ≠ r.aw) ∧
    (r.th ≠ r.bk ∧ r.th ≠ r.se ∧ r.th ≠ r.aw) ∧ (r.bk ≠ r.se ∧ r.bk ≠ r.aw) ∧ r.se ≠ r.aw ∧ (∀ k ∈ r.ss ++ r.as, r.o ≠ k ∧ r.td ≠ k ∧ r.cd ≠ k ∧ r.th ≠ k ∧ r.bk ≠ k ∧ r.se ≠ k ∧ r.aw ≠ k) ∧ (r.ss ++ r.as).Nodup := by
  unfold Rf.own at nd
  simp only [List.nodup_cons, List.mem_cons, not_or] at nd
  obtain ⟨⟨a1, a2, a3, a4, a5, a6, a7⟩, ⟨b1, b2, b3, b4, b5, b6⟩, ⟨c1, c2, c3, c4, c5⟩, ⟨d1, d2, d3, d4⟩, ⟨e1, e2, e3⟩, ⟨f1, f2⟩, g1, g2⟩ := nd
  exact ⟨⟨a1, a2, a3, a4, a5, a6⟩, ⟨b1, b2, b3, b4, b5⟩, ⟨c1, c2, c3, c4⟩, ⟨d1, d2, d3⟩, ⟨e1, e2⟩, f1, fun k hk => ⟨fun z => a7 (z ▸ hk), fun z => b6 (z ▸ hk), fun z => c5 (z ▸ hk), fun z => d4 (z ▸ hk), fun z => e3 (z ▸ hk), fun z => f2 (z ▸ hk), fun z => g1 (z ▸ hk)⟩, g2⟩
section
variable {h : EH} {r : Rf} {s : Hs}
theorem Ho.set_ob (H : Ho h r s) {s' : Hs} (e1 : s'.tied = s.tied) (e2 : s'.came = s.came) (e3 : s'.there = s.there) (e4 : s'.back = s.back) (e5 : s'.sett = s.sett) (e6 : s'.awar = s.awar) (e7 : s'.many = s.many) : Ho (h.set r.o (.obj 0 (hf s' r))) r s' := by
  obtain ⟨⟨a1, a2, a3, a4, a5, a6⟩, _, _, _, _, _, k, _⟩ := own_ne H.nd
  refine ⟨set_self H.ob, by rw [e1]; exact set_at H.tied a1, by rw [e2]; exact set_at H.came a2, by rw [e3]; exact set_at H.there a3, by rw [e4]; exact set_at H.back a4, set_at H.se a5, set_at H.aw a6, by rw [e7]; exact H.sl, by rw [e7]; exact H.al, fun i n hn => ?_, fun i n hn => ?_, H.nd⟩
  · rw [e5]; exact set_at (H.ss i n hn) (k n (List.mem_append_left _ (List.mem_of_getElem? hn))).1
  · rw [e6]; exact set_at (H.as i n hn) (k n (List.mem_append_right _ (List.mem_of_getElem? hn))).1
theorem Ho.set_tied (H : Ho h r s) (l : List Int) : Ho (h.set r.td (.dic false (iv l))) r { s with tied := l } := by
  obtain ⟨⟨a1, a2, a3, a4, a5, a6⟩, ⟨b2, b3, b4, b5, b6⟩, _, _, _, _, k, _⟩ := own_ne H.nd
  refine ⟨set_at H.ob a1.symm, set_self H.tied, set_at H.came b2, set_at H.there b3, set_at H.back b4, set_at H.se b5, set_at H.aw b6, H.sl, H.al, fun i n hn => ?_, fun i n hn => ?_, H.nd⟩
  · exact set_at (H.ss i n hn) (k n (List.mem_append_left _ (List.mem_of_getElem? hn))).2.1
  · exact set_at (H.as i n hn) (k n (List.mem_append_right _ (List.mem_of_getElem? hn))).2.1
theorem Ho.set_came (H : Ho h r s) (l : List Mark) : Ho (h.set r.cd (.dic true (cvM l))) r { s with came := l } := by
  obtain ⟨⟨a1, a2, a3, a4, a5, a6⟩, ⟨b2, b3, b4, b5, b6⟩, ⟨c3, c4, c5, c6⟩, _, _, _, k, _⟩ := own_ne H.nd
  refine ⟨set_at H.ob a2.symm, set_at H.tied b2.symm, set_self H.came, set_at H.there c3, set_at H.back c4, set_at H.se c5, set_at H.aw c6, H.sl, H.al, fun i n hn => ?_, fun i n hn => ?_, H.nd⟩
  · exact set_at (H.ss i n hn) (k n (List.mem_append_left _ (List.mem_of_getElem? hn))).2.2.1
  · exact set_at (H.as i n hn) (k n (List.mem_append_right _ (List.mem_of_getElem? hn))).2.2.1
theorem Ho.set_there (H : Ho h r s) (l : List Note) : Ho (h.set r.th (.dic true (tvN l))) r { s with there := l } := by
  obtain ⟨⟨a1, a2, a3, a4, a5, a6⟩, ⟨b2, b3, b4, b5, b6⟩, ⟨c3, c4, c5, c6⟩, ⟨d4, d5, d6⟩, _, _, k, _⟩ := own_ne H.nd
  refine ⟨set_at H.ob a3.symm, set_at H.tied b3.symm, set_at H.came c3.symm, set_self H.there, set_at H.back d4, set_at H.se d5, set_at H.aw d6, H.sl, H.al, fun i n hn => ?_, fun i n hn => ?_, H.nd⟩
  · exact set_at (H.ss i n hn) (k n (List.mem_append_left _ (List.mem_of_getElem? hn))).2.2.2.1
  · exact set_at (H.as i n hn) (k n (List.mem_append_right _ (List.mem_of_getElem? hn))).2.2.2.1
theorem Ho.set_back (H : Ho h r s) (l : List Mark) : Ho (h.set r.bk (.dic true (cvM l))) r { s with back := l } := by
  obtain ⟨⟨a1, a2, a3, a4, a5, a6⟩, ⟨b2, b3, b4, b5, b6⟩, ⟨c3, c4, c5, c6⟩, ⟨d4, d5, d6⟩, ⟨e5, e6⟩, _, k, _⟩ := own_ne H.nd
  refine ⟨set_at H.ob a4.symm, set_at H.tied b4.symm, set_at H.came c4.symm, set_at H.there d4.symm, set_self H.back, set_at H.se e5, set_at H.aw e6, H.sl, H.al, fun i n hn => ?_, fun i n hn => ?_, H.nd⟩
  · exact set_at (H.ss i n hn) (k n (List.mem_append_left _ (List.mem_of_getElem? hn))).2.2.2.2.1
  · exact set_at (H.as i n hn) (k n (List.mem_append_right _ (List.mem_of_getElem? hn))).2.2.2.2.1
theorem nodup_get {l : List Nat} (h : l.Nodup) {i j k : Nat} (hi : l[i]? = some k) (hj : l[j]? = some k) : i = j := by
  obtain ⟨i1, i2⟩ := List.getElem?_eq_some_iff.mp hi
  obtain ⟨j1, j2⟩ := List.getElem?_eq_some_iff.mp hj
  have key := List.pairwise_iff_getElem.mp h
  rcases Nat.lt_trichotomy i j with z | z | z
  · exact absurd (i2.trans j2.symm) (key i j i1 j1 z)
  · exact z
  · exact absurd (j2.trans i2.symm) (key j i j1 i1 z)
theorem Ho.set_sett (H : Ho h r s) {i n : Nat} (hn : r.ss[i]? = some n) (l : List Mark) : Ho (h.set n (.dic true (cvM l))) r { s with sett := setI s.sett i l } := by
  obtain ⟨_, _, _, _, _, _, k, nd⟩ := own_ne H.nd
  have hk := k n (List.mem_append_left _ (List.mem_of_getElem? hn))
  have nd' := List.nodup_append.mp nd
  refine ⟨set_at H.ob hk.1.symm, set_at H.tied hk.2.1.symm, set_at H.came hk.2.2.1.symm, set_at H.there hk.2.2.2.1.symm, set_at H.back hk.2.2.2.2.1.symm, set_at H.se hk.2.2.2.2.2.1.symm, set_at H.aw hk.2.2.2.2.2.2.symm, H.sl, H.al, fun j m hm => ?_, fun j m hm => ?_, H.nd⟩
  · show _ = some (EO.dic true (cvM (if (j : Int) = i then l else s.sett j)))
    by_cases e : j = i
    · subst e
      rw [hn] at hm
      cases hm
      rw [if_pos rfl]
      exact set_self (H.ss j n hn)
    · rw [if_neg (by omega)]
      exact set_at (H.ss j m hm) fun z => e (by subst z; exact nodup_get nd'.1 hm hn)
  · exact set_at (H.as j m hm) (nd'.2.2 n (List.mem_of_getElem? hn) m (List.mem_of_getElem? hm))
theorem Ho.set_awar (H : Ho h r s) {i n : Nat} (hn : r.as[i]? = some n) (l : List Mark) : Ho (h.set n (.dic true (cvM l))) r { s with awar := setI s.awar i l } := by
  obtain ⟨_, _, _, _, _, _, k, nd⟩ := own_ne H.nd
  have hk := k n (List.mem_append_right _ (List.mem_of_getElem? hn))
  have nd' := List.nodup_append.mp nd
  refine ⟨set_at H.ob hk.1.symm, set_at H.tied hk.2.1.symm, set_at H.came hk.2.2.1.symm, set_at H.there hk.2.2.2.1.symm, set_at H.back hk.2.2.2.2.1.symm, set_at H.se hk.2.2.2.2.2.1.symm, set_at H.aw hk.2.2.2.2.2.2.symm, H.sl, H.al, fun j m hm => ?_, fun j m hm => ?_, H.nd⟩
  · exact set_at (H.ss j m hm) fun z => nd'.2.2 m (List.mem_of_getElem? hm) n (List.mem_of_getElem? hn) z.symm
  · show _ = some (EO.dic true (cvM (if (j : Int) = i then l else s.awar j)))
    by_cases e : j = i
    · subst e
      rw [hn] at hm
      cases hm
      rw [if_pos rfl]
      exact set_self (H.as j n hn)
    · rw [if_neg (by omega)]
      exact set_at (H.as j m hm) fun z => e (by subst z; exact nodup_get nd'.2.1 hm hn)
end
end HW
set_option Elab.async false
set_option linter.all false
set_option maxRecDepth 100000
set_option maxHeartbeats 4000000
namespace TW
open PySem L2 EE LW HW
def Pn (n : Nat) (rs : List (Nat × Nat)) : Prop := ∀ p ∈ rs, p.1 < n ∧ p.2 < n
def Ln (n : Nat) (xs : List Nat) : Prop := ∀ x ∈ xs, x < n
def doesB (ps : List (Nat × Nat)) (ws : List Nat) : List Nat → List (Nat × Nat) → Bool
  | kn, [] => ws.all fun w => decide (w ∈ kn)
  | kn, p :: r => if decide (p.1 ∉ kn) || (decide (p.2 ∈ kn) || !adj ps p.1 p.2) then false else doesB ps ws (kn ++ [p.2]) r
theorem prs_at {rs : List (Nat × Nat)} {i : Nat} {v : EV} (h : (prs rs)[i]? = some v) : ∃ a b : Nat, rs[i]? = some (a, b) ∧ v = .tup [.int (a : Int), .int (b : Int)] := by
  unfold prs at h
  rw [List.getElem?_map] at h
  obtain ⟨p, hn, rfl⟩ := Option.map_eq_some_iff.mp h
  exact ⟨p.1, p.2, hn, rfl⟩
theorem nats_at {xs : List Nat} {i : Nat} {v : EV} (h : (nats xs)[i]? = some v) : ∃ a : Nat, xs[i]? = some a ∧ v = .int (a : Int) := by
  unfold nats at h
  rw [List.getElem?_map] at h
  obtain ⟨p, hn, rfl⟩ := Option.map_eq_some_iff.mp h
  exact ⟨p, hn, rfl⟩
theorem nats_len (xs : List Nat) : (nats xs).length = xs.length := by simp [nats]
theorem prs_len (xs : List (Nat × Nat)) : (prs xs).length = xs.length := by simp [prs]
theorem take_snoc {α : Type} {l : List α} {i : Nat} {a : α} (h : l[i]? = some a) : l.take (i + 1) = l.take i ++ [a] := by
  rw [List.take_add_one, h]; rfl
theorem drop_at {α : Type} {l : List α} {i : Nat} {a : α} (h : l[i]? = some a) : l.drop i = a :: l.drop (i + 1) := by
  obtain ⟨hl, e⟩ := List.getElem?_eq_some_iff.mp h
  rw [List.drop_eq_getElem_cons hl, e]
theorem houses_ok {h : EH} {l n : Nat} {xs : List Nat} (e : lstAt h l = some (nats xs)) (hn : Ln n xs) : Tri (m_check_houses [.ref l, .int (n : Int)] h) fun v h' => v = .non ∧ h' = h := by
  rw [u_check_houses]
  simp [b_check_houses, tri_bind, kItL_ref e]
  refine tri_for (xs := nats xs) (fun i es h' => h' = h ∧ ∃ x, es = [some (.ref l), some (.int (n : Int)), x]) ⟨rfl, _, rfl⟩ (fun i es h' ⟨q, _⟩ => by subst q; exact e) ?_ ?_
  · rintro i v es h' K hv ⟨rfl, x, rfl⟩ hK _ _ _
    obtain ⟨a, ha, rfl⟩ := nats_at hv
    have := hn a (List.mem_of_getElem? ha)
    simp [tri_bind, house (a : Int) (n : Int) h' (by omega) (by omega)]
    exact hK _ _ ⟨rfl, _, rfl⟩
  · rintro es h' ⟨rfl, x, rfl⟩
    simp
def Odd (n : Nat) (x : EV) : Prop := ∀ h, m_is_pair [x, .int (n : Int)] h = .ok (.bl false) h
theorem pair_ok (a b n : Nat) (h : EH) (ha : a < n) (hb : b < n) : m_is_pair [.tup [.int (a : Int), .int (b : Int)], .int (n : Int)] h = .ok (.bl true) h := by
  rw [pair]
  congr 2
  simp
  omega
theorem odd_len {n : Nat} {xs : List EV} (hl : xs.length ≠ 2) : Odd n (.tup xs) := fun h => by
  rw [u_is_pair]
  simp [b_is_pair, u_is_two, b_is_two, Ty.isa, show ¬ ((xs.length : Int) = 2) by omega]
theorem odd_int {n : Nat} {a b : Int} (hl : ¬ (0 ≤ a ∧ a ≤ n - 1) ∨ ¬ (0 ≤ b ∧ b ≤ n - 1)) : Odd n (.tup [.int a, .int b]) := fun h => by
  rw [pair]
  congr 2
  rw [← Bool.not_eq_true]
  simp
  omega
theorem odd_tup {n : Nat} {xs : List EV} {y : EV} : Odd n (.tup [.tup xs, y]) := fun h => by
  have e1 : fIx (.tup [.tup xs, y]) (.int 0) h = .ok (.tup xs) h := f_ixT _ 0 rfl rfl
  rw [u_is_pair]
  simp [b_is_pair, u_is_two, b_is_two, Ty.isa, e1, u_is_whole, b_is_whole]
theorem rows_ok {h : EH} {l n : Nat} {rs : List (Nat × Nat)} (e : lstAt h l = some (prs rs)) (hn : Pn n rs) : Tri (m__check_rows [.ref l, .int (n : Int)] h) fun v h' => v = .non ∧ h' = h := by
  rw [u__check_rows]
  simp [b__check_rows, tri_bind, kItE_ref e]
  refine tri_for (xs := prs rs) (fun i es h' => h' = h ∧ ∃ x y, es = [some (.ref l), some (.int (n : Int)), x, y]) ⟨rfl, _, _, rfl⟩ (fun i es h' ⟨q, _⟩ => by subst q; exact e) ?_ ?_
  · rintro i v es h' K hv ⟨rfl, x, y, rfl⟩ hK _ _ _
    obtain ⟨a, b, ha, rfl⟩ := prs_at hv
    obtain ⟨h1, h2⟩ := hn _ (List.mem_of_getElem? ha)
    simp [tri_bind, pair_ok a b n h' h1 h2]
    exact hK _ _ ⟨rfl, _, _, rfl⟩
  · rintro es h' ⟨rfl, x, y, rfl⟩
    simp
theorem rows_er {h : EH} {l n : Nat} {rs : List (Nat × Nat)} {x : EV} {more : List EV} (e : lstAt h l = some (prs rs ++ x :: more)) (hn : Pn n rs) (hx : Odd n x) (hl : rs.length < 400) : TrX (m__check_rows [.ref l, .int (n : Int)] h) (fun _ _ => False) fun y h' => y = ⟨28, [.int (rs.length : Int)]⟩ ∧ h' = h := by
  rw [u__check_rows]
  simp [b__check_rows, trx_bind, kItE_ref e]
  refine trx_for (xs := prs rs ++ x :: more) (fun i es h' => h' = h ∧ i ≤ rs.length ∧ ∃ x y, es = [some (.ref l), some (.int (n : Int)), x, y]) ⟨rfl, by omega, _, _, rfl⟩ (fun i es h' ⟨q, _⟩ => by subst q; exact e) ?_ ?_
  · rintro i v es h' K hv ⟨rfl, hi, x', y, rfl⟩ hK _ _ _
    by_cases c : i < rs.length
    · rw [List.getElem?_append_left (by rw [prs_len]; exact c)] at hv
      obtain ⟨a, b, ha, rfl⟩ := prs_at hv
      obtain ⟨h1, h2⟩ := hn _ (List.mem_of_getElem? ha)
      simp [trx_bind, pair_ok a b n h' h1 h2]
      exact hK _ _ ⟨rfl, by omega, _, _, rfl⟩
    · obtain rfl : i = rs.length := by omega
      rw [List.getElem?_append_right (by rw [prs_len]; omega), prs_len, Nat.sub_self] at hv
      cases hv
      simp [trx_bind, hx h', raise28 rs.length hl]
  · rintro es h' ⟨rfl, hi, _⟩
    simp [prs_len] at hi
    omega
theorem wants_filter (ws kn : List Nat) : decide (ws.filter (fun w => decide (w ∉ kn)) = []) = ws.all fun w => decide (w ∈ kn) := by
  rw [Bool.eq_iff_iff]
  simp [List.filter_eq_nil_iff, List.all_eq_true]
theorem f_eqNats {h : EH} {a b : Nat} {xs : List Nat} (ha : lstAt h a = some (nats xs)) (hb : lstAt h b = some []) : fEq (.ref a) (.ref b) h = .ok (.bl (decide (xs = []))) h := by
  show (Res.no).orElse _ = _
  have e1 := dat_lst ha (dat0s_nats _ xs)
  have e2 := dat_lst hb (show dat0s (datF h 3) [] = some [] by simp [dat0s])
  simp only [orE_no, fEqD, e1, e2, shaped_nats, Bool.true_and]
  rw [if_pos (by rfl)]
  cases xs with
  | nil => simp [PyData.eqv, PyData.eqvAll]
  | cons x xs => simp [PyData.eqv, PyData.eqvAll]
section
variable {ps : List (Nat × Nat)} {n : Nat}
theorem law_does {h : EH} {r hs ws l : Nat} {has wants : List Nat} {rs : List (Nat × Nat)} {Q : EV → EH → Prop} (hR : Rows h r n fun i => nats ((List.range n).filter (adj ps i))) (h1 : lstAt h hs = some (nats has)) (h2 : lstAt h ws = some (nats wants)) (h3 : lstAt h l = some (prs rs)) (hn : Pn n rs)
    (hl : has.length + rs.length < 1000) (hw : wants.length < 1000) (q : ∀ h', Fr [] h h' → Q (.bl (doesB ps wants has rs)) h') : Tri (m__law_does [.ref r, .ref hs, .ref ws, .ref l] h) Q := by
  rw [u__law_does]
  simp [b__law_does, tri_bind, f_list h1]
  have f1 : Fr [] h (h ++ [EO.lst (nats has)]) := Fr.app _ _ _
  have m1 : mutAt (h ++ [EO.lst (nats has)]) h.length = some (nats has) := mutAt_new
  simp [kItL_ref (f1.lst h3 (by simp)), tri_bind]
  generalize h ++ [EO.lst (nats has)] = h4 at *
  refine tri_for (xs := prs rs) (fun i es h' => Fr [] h h' ∧ h.length < h'.length ∧ (∃ x y, es = [some (.ref r), some (.ref hs), some (.ref ws), some (.ref l), some (.ref h.length), x, y, none]) ∧ mutAt h' h.length = some (nats (has ++ (rs.take i).map (·.2))) ∧
      doesB ps wants has rs = doesB ps wants (has ++ (rs.take i).map (·.2)) (rs.drop i)) ⟨f1, mutAt_lt m1, ⟨_, _, rfl⟩, by simpa using m1, by simp⟩ (fun i es h' ⟨f, _⟩ => f.lst h3 (by simp)) ?_ ?_
  · rintro i v es h' K hv ⟨f, hlt, ⟨x, y, rfl⟩, m, hd⟩ hK _ _ hrt
    obtain ⟨a, b, ha, rfl⟩ := prs_at hv
    obtain ⟨ga, gb⟩ := hn _ (List.mem_of_getElem? ha)
    have hil := (List.getElem?_eq_some_iff.mp ha).1
    obtain ⟨k, e1, e2⟩ := (hR.fr f).get ga
    rw [drop_at ha] at hd
    simp only [doesB] at hd
    have i1 := f_notInNat (lst_mut m) a
    have i2 := f_inNat (lst_mut m) b
    have i3 := f_notInNat e2 b
    have i3' : decide (b ∉ (List.range n).filter (adj ps a)) = !adj ps a b := by
      rw [Bool.eq_iff_iff]; simp [gb]
    rw [i3'] at i3
    have fin : (∃ c, (decide (a ∉ has ++ (rs.take i).map (·.2)) || (decide (b ∈ has ++ (rs.take i).map (·.2)) || !adj ps a b)) = c) := ⟨_, rfl⟩
    obtain ⟨c, hc⟩ := fin
    rw [hc] at hd
    generalize hA : decide (a ∉ has ++ (rs.take i).map (·.2)) = A at i1 hc
    generalize hB : decide (b ∈ has ++ (rs.take i).map (·.2)) = B at i2 hc
    generalize hC : (!adj ps a b) = C at i3 hc
    have tst : Tri ((dOr (dB (dOp fNotIn (dVar 5) (dVar 4))) (dOr (dB (dOp fIn (dVar 6) (dVar 4))) (dB (dOp fNotIn (dVar 6) (dOp fIx (dVar 0) (dVar 5)))))) [some (.ref r), some (.ref hs), some (.ref ws), some (.ref l), some (.ref h.length), some (.int (a : Int)), some (.int (b : Int)), none] h') fun z h2 => z = c ∧ h2 = h' := by
      subst hc
      cases A <;> cases B <;> simp [tri_bind, i1, i2, e1, i3]
    simp only [ap_gtup, List.length_cons, List.length_nil, Nat.zero_add, Nat.reduceAdd, if_true, ap_gcons, ap_name, bind_ok, ap_kG, ap_gnil, tri_ok, List.set_cons_succ, List.set_cons_zero, ap_seq, ap_ifS, tri_bind]
    refine tst.mono ?_
    rintro z h2 ⟨rfl, rfl⟩
    cases z with
    | true =>
      rw [if_pos rfl] at hd
      simp
      refine hrt _ _ ?_
      have := q h2 f
      rw [hd] at this
      simpa [tri_bind] using this
    | false =>
      rw [if_neg (by decide)] at hd
      simp [tri_bind, kBM_ref _ _ _ (lst_mut m), m_append m (by simp [nats]; omega)]
      refine hK _ _ ⟨f.set (.inr (Nat.le_refl _)), by simpa using hlt, ⟨_, _, rfl⟩, ?_, ?_⟩
      · rw [mutAt_set (mutAt_lt m), take_snoc ha]
        simp [nats]
      · rw [hd, take_snoc ha]
        simp
  · rintro es h' ⟨f, hlt, ⟨x, y, rfl⟩, m, hd⟩
    rw [prs_len, List.take_length, List.drop_length] at hd
    rw [prs_len, List.take_length] at m
    simp only [doesB] at hd
    generalize has ++ rs.map (·.2) = kn at *
    simp [tri_bind, kItL_ref (f.lst h2 (by simp))]
    refine lc_nats (xs := wants) (fun w => decide (w ∉ kn)) (by omega) (fun h'' f2 => f2.lst (f.lst h2 (by simp)) (by simp)) (fun _ _ => by rfl) (by simp) (by rfl) (fun j h8 K hj f8 hK => ?_) fun h8 f8 => ?_
    · simp [tri_bind, f_notInNat (f8.lst (lst_mut m) (by simp)) j]
      simpa using hK h8 (Fr.refl _ _)
    · have hw2 := wants_filter wants kn
      generalize wants.filter (fun w => decide (w ∉ kn)) = X at *
      have l1 : lstAt (h8 ++ [EO.lst (nats X), EO.lst []]) h8.length = some (nats X) := by
        unfold lstAt
        rw [List.getElem?_append_right (Nat.le_refl _), Nat.sub_self]
        rfl
      have := q (h8 ++ [EO.lst (nats X), EO.lst []]) ((f.trans f8).trans (Fr.app _ _ _))
      rw [hd, ← hw2] at this
      simp only [ap_kLst, List.length_nil, Nat.zero_le, if_true, List.append_assoc, List.cons_append, List.nil_append, List.length_append, List.length_singleton, tri_bind, ap_kOp, ap_lst, ap_nil, bind_ok, ap_kOp2, f_eqNats l1 lstAt_new2, tri_ok, ap_kRet, kDef_rt]
      exact this
end
end TW
set_option Elab.async false
set_option linter.all false
set_option maxRecDepth 100000
set_option maxHeartbeats 4000000
namespace TW
open PySem L2 EE LW HW
def Hs (ks : List Int) (kn : List Nat) : Prop := (∀ k : Nat, (k : Int) ∈ ks ↔ k ∈ kn) ∧ ks.length ≤ kn.length
theorem Hs.push {ks : List Int} {kn : List Nat} (H : Hs ks kn) (b : Nat) : Hs (if (b : Int) ∈ ks then ks else ks ++ [(b : Int)]) (kn ++ [b]) := by
  obtain ⟨h1, h2⟩ := H
  by_cases c : (b : Int) ∈ ks
  · rw [if_pos c]
    refine ⟨fun k => ?_, by simp; omega⟩
    rw [h1, List.mem_append, List.mem_singleton]
    constructor
    · exact .inl
    · rintro (z | rfl)
      · exact z
      · exact (h1 _).mp c
  · rw [if_neg c]
    refine ⟨fun k => ?_, by simp; omega⟩
    rw [List.mem_append, List.mem_append, h1, List.mem_singleton, List.mem_singleton]
    exact or_congr Iff.rfl ⟨fun z => by omega, fun z => by omega⟩
theorem inAll_iv {ks : List Int} {kn : List Nat} (H : Hs ks kn) : ∀ ws : List Nat, inAllE (iv ks) (nats ws) = some (ws.all fun w => decide (w ∈ kn))
  | [] => rfl
  | w :: ws => by
    have ih := inAll_iv H ws
    show (match dgetE false (iv ks) (.int (w : Int)), inAllE (iv ks) (nats ws) with | some o, some b => some (o.isSome && b) | _, _ => none) = _
    rw [ih, getE_iv, List.all_cons]
    by_cases c : (w : Int) ∈ ks
    · simp [c, (H.1 w).mp c]
    · have : w ∉ kn := fun z => c ((H.1 w).mpr z)
      simp [c, this]
theorem din_iv {h : EH} {d : Nat} {ks : List Int} {kn : List Nat} (neg : Bool) (e : h[d]? = some (.dic false (iv ks))) (H : Hs ks kn) (a : Nat) : fDIn neg (.int (a : Int)) (.ref d) h = .ok (.bl (neg ^^ decide (a ∈ kn))) h := by
  rw [f_din (.inl e) (getE_iv ks a)]
  congr 3
  by_cases c : (a : Int) ∈ ks
  · simp [c, (H.1 a).mp c]
  · have : a ∉ kn := fun z => c ((H.1 a).mpr z)
    simp [c, this]
theorem all_in {h : EH} {d w : Nat} {ks : List Int} {kn ws : List Nat} (e : h[d]? = some (.dic false (iv ks))) (H : Hs ks kn) (hw : lstAt h w = some (nats ws)) : m__all_in [.ref w, .ref d] h = .ok (.bl (ws.all fun w => decide (w ∈ kn))) h := by
  rw [u__all_in]
  simp [b__all_in, kAllIn, hw, dicAt_of (.inl e), inAll_iv H]
section
variable {ps : List (Nat × Nat)} {n : Nat}
abbrev shTail : DS := (dSeq (dAsg (dDc false (dItL (dVar 2)) (dName 9) dYes (dVar 9) (dC (.bl true)) [9]) (dName 6))
  (dSeq (dFor (dItL (dVar 4)) (dGTup 2 (dGCons (dName 7) (dGCons (dName 8) dGNil)))
  (dSeq (dIfS (dOr (dB (dOp (fDIn true) (dVar 7) (dVar 6))) (dOr (dB (dOp (fDIn false) (dVar 8) (dVar 6))) (dB (dOp fNotIn (dVar 8) (dOp fIx (dVar 5) (dVar 7)))))) (dRet (dC (.bl false)))
  dNext)
  (dAsg (dC (.bl true)) (dGSub (dVar 6) (dVar 8) sDic))))
  (dRet (dCall m__all_in (dCons (dVar 3) (dCons (dVar 6) dNil))))))
theorem sh_tail {h : EH} {t r hs ws l : Nat} {has wants : List Nat} {rs : List (Nat × Nat)} {Q : EV → EH → Prop} (hR : Rows h r n fun i => nats (nbr ps i)) (h1 : lstAt h hs = some (nats has)) (h2 : lstAt h ws = some (nats wants)) (h3 : lstAt h l = some (prs rs)) (hn : Pn n rs)
    (hl : has.length + rs.length < 1000) (q : ∀ h', Fr [] h h' → Q (.bl (doesB ps wants has rs)) h') :
    Tri (shTail [some (.int (n : Int)), some (.ref t), some (.ref hs), some (.ref ws), some (.ref l), some (.ref r), none, none, none, none] h) fun f h' => Tri (kDef f h') Q := by
  simp only [shTail, ap_seq, ap_asg, ap_dc, ap_itL, ap_var, List.getElem?_cons_succ, List.getElem?_cons_zero, gV_some, bind_ok, kItL_ref h1, tri_bind]
  refine tri_dc (xs := nats has) (fun i acc h' => h' = h ∧ ∃ ks, acc = iv ks ∧ Hs ks (has.take i) ∧ i ≤ has.length) ⟨rfl, [], rfl, ⟨fun k => by simp, by simp⟩, by omega⟩ (fun i acc h' ⟨q, _⟩ => by subst q; exact h1) ?_ ?_
  · rintro i v acc h' hv ⟨rfl, ks, rfl, H, hi⟩
    obtain ⟨a, ha, rfl⟩ := nats_at hv
    have hil := (List.getElem?_eq_some_iff.mp ha).1
    simp [wip]
    have := H.2
    refine ⟨_, putE_iv ks a, by simp [iv] at *; omega, _, rfl, ?_, by omega⟩
    rw [take_snoc ha]
    exact H.push a
  · rintro acc h' ⟨rfl, ks, rfl, H, hi⟩
    rw [nats_len, List.take_length] at H
    have f4 : Fr [] h' (h' ++ [EO.dic false (iv ks)]) := Fr.app _ _ _
    have d4 : (h' ++ [EO.dic false (iv ks)])[h'.length]? = some (EO.dic false (iv ks)) := by simp
    simp only [ap_kAsg, ap_name, bind_ok, ap_kAsg2, tri_ok, kSeq_nx, List.set_cons_succ, List.set_cons_zero, ap_seq, ap_for, ap_itL, ap_var, List.getElem?_cons_succ, List.getElem?_cons_zero, gV_some, kItL_ref (f4.lst h3 (by simp)), tri_bind]
    generalize h' ++ [EO.dic false (iv ks)] = h4 at *
    have hl4 : h'.length < h4.length := (List.getElem?_eq_some_iff.mp d4).1
    refine tri_for (xs := prs rs) (fun i es h5 => Fr [] h' h5 ∧ h'.length < h5.length ∧ (∃ x y, es = [some (.int (n : Int)), some (.ref t), some (.ref hs), some (.ref ws), some (.ref l), some (.ref r), some (.ref h'.length), x, y, none]) ∧
      (∃ ks, h5[h'.length]? = some (EO.dic false (iv ks)) ∧ Hs ks (has ++ (rs.take i).map (·.2))) ∧ doesB ps wants has rs = doesB ps wants (has ++ (rs.take i).map (·.2)) (rs.drop i)) ⟨f4, hl4, ⟨_, _, rfl⟩, ⟨ks, d4, by simpa using H⟩, by simp⟩ (fun i es h5 ⟨f, _⟩ => f.lst h3 (by simp)) ?_ ?_
    · rintro i v es h5 K hv ⟨f, hlt, ⟨x, y, rfl⟩, ⟨ks, m, H⟩, hd⟩ hK _ _ hrt
      obtain ⟨a, b, ha, rfl⟩ := prs_at hv
      obtain ⟨ga, gb⟩ := hn _ (List.mem_of_getElem? ha)
      have hil := (List.getElem?_eq_some_iff.mp ha).1
      obtain ⟨k, e1, e2⟩ := (hR.fr f).get ga
      rw [drop_at ha] at hd
      simp only [doesB] at hd
      have i1 := din_iv true m H a
      have i2 := din_iv false m H b
      have i3 := f_notInNat e2 b
      have i3' : decide (b ∉ nbr ps a) = !adj ps a b := by
        rw [Bool.eq_iff_iff]; simp [nbr_mem]
      rw [i3'] at i3
      obtain ⟨c, hc⟩ : (∃ c, (decide (a ∉ has ++ (rs.take i).map (·.2)) || (decide (b ∈ has ++ (rs.take i).map (·.2)) || !adj ps a b)) = c) := ⟨_, rfl⟩
      rw [hc] at hd
      generalize hA : decide (a ∉ has ++ (rs.take i).map (·.2)) = A at hc
      generalize hB : decide (b ∈ has ++ (rs.take i).map (·.2)) = B at i2 hc
      generalize hC : (!adj ps a b) = C at i3 hc
      have hA2 : (true ^^ decide (a ∈ has ++ (rs.take i).map (·.2))) = A := by rw [← hA]; simp
      rw [hA2] at i1
      have tst : Tri ((dOr (dB (dOp (fDIn true) (dVar 7) (dVar 6))) (dOr (dB (dOp (fDIn false) (dVar 8) (dVar 6))) (dB (dOp fNotIn (dVar 8) (dOp fIx (dVar 5) (dVar 7)))))) [some (.int (n : Int)), some (.ref t), some (.ref hs), some (.ref ws), some (.ref l), some (.ref r), some (.ref h'.length), some (.int (a : Int)), some (.int (b : Int)), none] h5) fun z h2 => z = c ∧ h2 = h5 := by
        subst hc
        cases A <;> cases B <;> simp [tri_bind, i1, i2, e1, i3]
      simp only [ap_gtup, List.length_cons, List.length_nil, Nat.zero_add, Nat.reduceAdd, if_true, ap_gcons, ap_name, bind_ok, ap_kG, ap_gnil, tri_ok, List.set_cons_succ, List.set_cons_zero, ap_seq, ap_ifS, tri_bind]
      refine tst.mono ?_
      rintro z h2 ⟨rfl, rfl⟩
      cases z with
      | true =>
        rw [if_pos rfl] at hd
        simp
        refine hrt _ _ ?_
        have := q h2 f
        rw [hd] at this
        simpa [tri_bind] using this
      | false =>
        rw [if_neg (by decide)] at hd
        have := H.2
        simp at this
        simp [tri_bind, s_dic m (putE_iv ks b) (by simp [iv]; omega)]
        refine hK _ _ ⟨f.set (.inr (Nat.le_refl _)), by simpa using hlt, ⟨_, _, rfl⟩, ⟨_, List.getElem?_set_self hlt, ?_⟩, ?_⟩
        · rw [take_snoc ha, List.map_append, ← List.append_assoc]
          exact H.push b
        · rw [hd, take_snoc ha]
          simp
    · rintro es h5 ⟨f, hlt, ⟨x, y, rfl⟩, ⟨ks, m, H⟩, hd⟩
      rw [prs_len, List.take_length, List.drop_length] at hd
      rw [prs_len, List.take_length] at H
      simp only [doesB] at hd
      simp [tri_bind, all_in m H (f.lst h2 (by simp))]
      have := q h5 f
      rw [hd] at this
      simpa using this
theorem shows_ok {h : EH} {t hs ws l : Nat} {has wants : List Nat} {rs : List (Nat × Nat)} {Q : EV → EH → Prop} (ht : lstAt h t = some (prs ps)) (hp : TiesOk n ps) (hpl : ps.length ≤ 100) (g2 : 2 ≤ n) (g8 : n ≤ 8) (h1 : lstAt h hs = some (nats has)) (h2 : lstAt h ws = some (nats wants)) (h3 : lstAt h l = some (prs rs))
    (hh : Ln n has) (hw : Ln n wants) (hn : Pn n rs) (hl : has.length + rs.length < 1000) (q : ∀ h', Fr [] h h' → Q (.bl (doesB ps wants has rs)) h') : Tri (m_shows [.int (n : Int), .ref t, .ref hs, .ref ws, .ref l] h) Q := by
  rw [u_shows]
  unfold b_shows
  rw [ap_seq, tri_bind, tri_bind]
  simp only [ap_asg, ap_call, ap_cons, ap_var, ap_nil, List.getElem?_cons_zero, List.getElem?_cons_succ, gV_some, bind_ok, ap_kCons, ap_kCons2, ap_kCall, tri_bind, tri_noer]
  refine neighbours ht hp hpl g2 g8 fun r h4 hR f => ?_
  simp only [ap_kAsg, ap_name, bind_ok, ap_kAsg2, tri_ok, kSeq_nx, List.set_cons_succ, List.set_cons_zero, ap_seq, tri_bind, ap_drop, ap_call, ap_cons, ap_var, ap_nil, List.getElem?_cons_zero, List.getElem?_cons_succ, gV_some, bind_ok, ap_kCons, ap_kCons2, ap_kCall, tri_noer]
  refine (houses_ok (f.lst h1 (by simp)) hh).mono ?_
  rintro v h5 ⟨rfl, rfl⟩
  simp only [ap_kDrop, tri_ok, kSeq_nx, ap_seq, tri_bind, ap_drop, ap_call, ap_cons, ap_var, ap_nil, List.getElem?_cons_zero, List.getElem?_cons_succ, gV_some, bind_ok, ap_kCons, ap_kCons2, ap_kCall, tri_noer]
  refine (houses_ok (f.lst h2 (by simp)) hw).mono ?_
  rintro v h6 ⟨rfl, rfl⟩
  simp only [ap_kDrop, tri_ok, kSeq_nx, ap_seq, tri_bind, ap_drop, ap_callX, ap_cons, ap_var, ap_nil, List.getElem?_cons_zero, List.getElem?_cons_succ, gV_some, bind_ok, ap_kCons, ap_kCons2]
  refine (rows_ok (f.lst h3 (by simp)) hn).mono ?_
  rintro v h7 ⟨rfl, rfl⟩
  have := sh_tail (t := t) hR (f.lst h1 (by simp)) (f.lst h2 (by simp)) (f.lst h3 (by simp)) hn hl fun h' f' => q h' (f.trans f')
  simpa only [shTail, ap_seq, tri_bind] using this
theorem shows_er {h : EH} {t hs ws l : Nat} {has wants : List Nat} {rs : List (Nat × Nat)} {x : EV} {more : List EV} (ht : lstAt h t = some (prs ps)) (hp : TiesOk n ps) (hpl : ps.length ≤ 100) (g2 : 2 ≤ n) (g8 : n ≤ 8) (h1 : lstAt h hs = some (nats has)) (h2 : lstAt h ws = some (nats wants)) (h3 : lstAt h l = some (prs rs ++ x :: more))
    (hh : Ln n has) (hw : Ln n wants) (hn : Pn n rs) (hx : Odd n x) (hl : rs.length < 400) : TrX (m_shows [.int (n : Int), .ref t, .ref hs, .ref ws, .ref l] h) (fun _ _ => False) fun y h' => y = ⟨28, [.int (rs.length : Int)]⟩ ∧ Fr [] h h' := by
  rw [u_shows]
  unfold b_shows
  rw [ap_seq, trx_bind, trx_bind]
  simp only [ap_asg, ap_call, ap_cons, ap_var, ap_nil, List.getElem?_cons_zero, List.getElem?_cons_succ, gV_some, bind_ok, ap_kCons, ap_kCons2, ap_kCall, trx_bind, trx_noer]
  refine neighbours ht hp hpl g2 g8 fun r h4 hR f => ?_
  simp only [ap_kAsg, ap_name, bind_ok, ap_kAsg2, trx_ok, kSeq_nx, List.set_cons_succ, List.set_cons_zero, ap_seq, trx_bind, ap_drop, ap_call, ap_cons, ap_var, ap_nil, List.getElem?_cons_zero, List.getElem?_cons_succ, gV_some, bind_ok, ap_kCons, ap_kCons2, ap_kCall, trx_noer]
  refine (houses_ok (f.lst h1 (by simp)) hh).mono ?_
  rintro v h5 ⟨rfl, rfl⟩
  simp only [ap_kDrop, trx_ok, kSeq_nx, ap_seq, trx_bind, ap_drop, ap_call, ap_cons, ap_var, ap_nil, List.getElem?_cons_zero, List.getElem?_cons_succ, gV_some, bind_ok, ap_kCons, ap_kCons2, ap_kCall, trx_noer]
  refine (houses_ok (f.lst h2 (by simp)) hw).mono ?_
  rintro v h6 ⟨rfl, rfl⟩
  simp only [ap_kDrop, trx_ok, kSeq_nx, ap_seq, trx_bind, ap_drop, ap_callX, ap_cons, ap_var, ap_nil, List.getElem?_cons_zero, List.getElem?_cons_succ, gV_some, bind_ok, ap_kCons, ap_kCons2]
  refine (rows_er (f.lst h3 (by simp)) hn hx hl).mono (fun _ _ z => z.elim) ?_
  rintro v h7 ⟨rfl, rfl⟩
  exact ⟨rfl, f⟩
end
end TW
set_option Elab.async false
set_option linter.all false
set_option maxRecDepth 100000
set_option maxHeartbeats 1000000
namespace EE
open PySem PySem.Spec PyProof.Rows L2
section
variable {X : Cx}
theorem ps_setDcG {o0 : HO} (ho0 : o0 = .dK [] ∨ o0 = .dT []) (hu : X.A.units + 1 < cLine) {i : Nat} {y : Str} {py : Pos} {kx vx tg iter : Expr} {ifs : List Expr} {scope : Scope} {own : List (Str × Nat)} {pos spos : Pos} {wi : TI} {g : TG} {tt : TT} {tk tv : TE} (hc : X.calm = true) (hN : X.N.Nodup)
    (hy : X.N[i]? = some y) (hyl : X.env.scope.names.lookup y = some .local) (hsw : swapsWith (.DictComp kx vx [⟨tg, iter, ifs, 0⟩] scope pos) (some (.Name y py)) spos.line X.env = pure true) (hi : PI X tg iter wi) (ok : BlkOk X.N X.env.scope scope own)
    (hg : InBlk X scope fun Y => PG Y tg g) (ht : InBlk X scope fun Y => PTs Y ifs tt) (hk : InBlk X scope fun Y => PE Y kx tk) (hv : InBlk X scope fun Y => PE Y vx tv) (hs : ∀ x, foldedSetIterable iter X.env x = pure x := by intro _; rfl) :
    PS X (.Assign [.Name y py] (.DictComp kx vx [⟨tg, iter, ifs, 0⟩] scope pos) spos) (tAsg (tDcG o0 wi g tt tk tv (own.map (·.2))) (gName i)) := by
  refine ⟨fun pins s σ H D I h => ?_⟩
  rw [exec_Assign_Name_used _ _ _ _ hsw]
  refine wpAny_bind (wpAny_standAt (wpAny_bind ?_))
  show wpAny _ X.A (do let _ ← comprehension (.DictComp kx vx [⟨tg, iter, ifs, 0⟩] scope pos) scope X.env (firstIterPos [⟨tg, iter, ifs, 0⟩] pos) newDict false (eval iter X.env) (some (assign (.Name y py) X.env))) _ _ s
  have h : tDcG o0 wi g tt tk tv (own.map (·.2)) σ H (fun x H1 => gName i x σ H1 D.nx) := h
  refine wpAny_bind (thn (dict_comp_any (Qf := fun _ s' => SP X pins D .next s') ho0 hu hc hN I hi ok hg ht hk hv hs h fun L C s' m H' J q hn f => ?_) fun _ s' hq => wpAny_pure (wpAny_pure hq))
  show wpAny _ _ (assign (.Name y py) X.env (.ref L)) _ _ _
  refine wpAny_assign_Name (store_ok2 (v := V.ref L) J hN hy (.inl hyl) rfl (fun s2 J2 ⟨a, sb, ha⟩ => ?_) (.inr hyl))
  obtain ⟨f0, f1, f2, f3, f4, f5⟩ := f
  have apart : C ≠ a := by
    rcases ha with z | z
    · rw [z]; exact f1
    · exact fun e => f4 y a z e.symm
  refine ⟨m, hn.sameBut sb apart, fun h3 sb3 => ?_⟩
  exact ⟨_, H', J2.turned (t' := s2.toks) (fun b o hb e => (sb3.2 b hb).trans e) f0 f1 f3 f4 f5, q⟩
theorem swD_true {kx vx : Expr} {gs : List Comprehension} {scope : Scope} {pos py : Pos} {y : Str} {l : Nat} {env : Env} (hk : env.scope.kind = .function) (hy : env.scope.names.lookup y = some .local) (hl : (py.line == pos.line) = true)
    (ha : (scope.names.any fun (n, k) => n == y && (k == .local || k == .cell)) = false) : swapsWith (.DictComp kx vx gs scope pos) (some (.Name y py)) l env = pure true := by
  have kd : env.kindOf y = some .local := hy
  have bk : env.blockKind = .function := by unfold Env.blockKind; rw [hk]; rfl
  unfold swapsWith
  simp only [bk, kd, ha, Expr.pos, hl]
  rfl
end
section
variable {X : Cx} {ct : Nat → Addr × List Str} {E : XK} {kx vx tg iter c : Expr} {scope : Scope} {pos py spos : Pos} {y : Str} {di : DI} {dg : DG} {dt : DT} {dk de : DE}
theorem xs_setDc (j : Nat) (kd : Bool) (own : List (Str × Nat)) {g : TG} (hu : X.A.units + 1 < cLine) (hc : X.calm = true) (hN : X.N.Nodup) (hi : PId X ct E tg iter di) (hk : InBlk X scope fun Y => PEd Y ct E kx dk) (hv : InBlk X scope fun Y => PEd Y ct E vx de)
    (hg : InBlk X scope fun Y => PG Y tg g) (hg2 : SndG ⟨X.K, ct⟩ E g dg) (ho : OnlyIn g (own.map (·.2))) (hsw : swapsWith (.DictComp kx vx [⟨tg, iter, [], 0⟩] scope pos) (some (.Name y py)) spos.line X.env = pure true)
    (ok : blkC X.N X.env.scope scope own = true := by kernel_rfl) (hs : ∀ x, foldedSetIterable iter X.env x = pure x := by intro _; rfl) (hy : X.N[j]? = some y := by rfl) (hyl : X.env.scope.names.lookup y = some .local := by rfl) :
    PSd X ct E (.Assign [.Name y py] (.DictComp kx vx [⟨tg, iter, [], 0⟩] scope pos) spos) (dAsg (dDc kd di dg dYes dk de (own.map (·.2))) (dName j)) := by
  obtain ⟨wi, i1, i2⟩ := hi
  exact ⟨_, ps_setDcG (o0_ok kd) hu hc hN hy hyl hsw i1 (blkOk_by ok) hg (fun _ _ _ _ _ => pts_nil) (fun s H C cl fp => (hk s H C cl fp).can) (fun s H C cl fp => (hv s H C cl fp).can) hs, snd_asg (snd_dc i2 hg2 ho snd_yes snd_tE snd_tE) snd_gname⟩
theorem xs_setDci (j : Nat) (kd : Bool) (own : List (Str × Nat)) {g : TG} (hu : X.A.units + 1 < cLine) (hc : X.calm = true) (hN : X.N.Nodup) (hi : PId X ct E tg iter di) (ht : InBlk X scope fun Y => PTd Y ct E c dt) (hk : InBlk X scope fun Y => PEd Y ct E kx dk) (hv : InBlk X scope fun Y => PEd Y ct E vx de)
    (hg : InBlk X scope fun Y => PG Y tg g) (hg2 : SndG ⟨X.K, ct⟩ E g dg) (ho : OnlyIn g (own.map (·.2))) (hsw : swapsWith (.DictComp kx vx [⟨tg, iter, [c], 0⟩] scope pos) (some (.Name y py)) spos.line X.env = pure true)
    (ok : blkC X.N X.env.scope scope own = true := by kernel_rfl) (hs : ∀ x, foldedSetIterable iter X.env x = pure x := by intro _; rfl) (hy : X.N[j]? = some y := by rfl) (hyl : X.env.scope.names.lookup y = some .local := by rfl) :
    PSd X ct E (.Assign [.Name y py] (.DictComp kx vx [⟨tg, iter, [c], 0⟩] scope pos) spos) (dAsg (dDc kd di dg dt dk de (own.map (·.2))) (dName j)) := by
  obtain ⟨wi, i1, i2⟩ := hi
  exact ⟨_, ps_setDcG (o0_ok kd) hu hc hN hy hyl hsw i1 (blkOk_by ok) hg (fun s H C cl fp => pts_one (ht s H C cl fp).can) (fun s H C cl fp => (hk s H C cl fp).can) (fun s H C cl fp => (hv s H C cl fp).can) hs, snd_asg (snd_dc i2 hg2 ho snd_tT snd_tE snd_tE) snd_gname⟩
theorem xe_allInQ {q : Str} {c P : Addr} {iter : Expr} {x dn : Str} {px gpos p1 p2 p3 p pos : Pos} {scope : Scope} {d : DE} {k iD : Nat}
    (hr : Room k X.A) (hg : Gl X "all") (hm : X.mg "all" = none) (TB : LamX.TabB X.base X.mg c P) (hcode : X.env.code = .ref c) (hq : X.env.qual = q) (hmT : (P, q ++ "<genexpr>") ∈ tabOf ct) (hu : ∀ p ∈ tabOf ct, p.1 = P → p.2 = q ++ "<genexpr>")
    (S : AllSc X.env.scope scope x dn) (hN : X.N[iD]? = some dn) (hi : PEd X ct E iter d) (hs : ∀ v, genFold iter X.env v = pure v)
    (he : starEach [.GeneratorExp (.Compare (.Name x p1) [.In] [.Name dn p2] p3) [⟨.Name x px, iter, [], 0⟩] scope gpos] X.env = (false, eval (.GeneratorExp (.Compare (.Name x p1) [.In] [.Name dn p2] p3) [⟨.Name x px, iter, [], 0⟩] scope gpos) X.env) :: starEach [] X.env := by rfl)
    (hb : bootBuiltins "all" = some (.builtin "all") := by rfl) (hdx : (x == ("__debug__" : Str)) = false := by decide) (hdd : (dn == ("__debug__" : Str)) = false := by decide) (hdc : (dn == ("__classdict__" : Str)) = false := by decide) :
    PEd X ct E (.Call (.Name "all" p) [.GeneratorExp (.Compare (.Name x p1) [.In] [.Name dn p2] p3) [⟨.Name x px, iter, [], 0⟩] scope gpos] [] pos) (dAllIn iD d) := by
  subst hq
  exact xe_allIn hr hg hm TB hcode hmT hu S hN hi hs he hb hdx hdd hdc
end
theorem hu64s {k : Nat} {A : Around} {m : Option Value} (hr : Room k A) : (A.mark m).units + 64 < cLine := by
  have := hr.un
  show A.units + 64 < _
  omega
theorem xe_wordQ {X : Cx} {ct : Nat → Addr × List Str} {E : XK} {q : Str} {x a e n : Str} {st : Stmt} {c P news : Addr} {k : Nat} {Ng : List Str} {b0 : Stmt} {suite : List Stmt} {p1 p2 p3 p4 p7 p8 : Pos}
    {params : Arguments} {body : Expr} {scope : Scope} {p lpos pos : Pos} {raised : Nat → Prop} {dS : Nat → Addr → Option Addr → DS} {rs : Nat → List EV → EH → Option (EV × EH)} {d : DE}
    (T : Tx X.K X.mg x st [a]) (hst : defBody st = [.Try [.Return (some (.Call (.Name a p1) [] [] p2)) p3] [.ExceptHandler (some (.Name e p4)) (some n) (b0 :: suite) p7] [] [] p8]) (hg : Gl X x)
    (Sg : FnScope Ng [a] (defScope st)) (hNg : Ng[0]? = some a) (hva : Vis (defScope st) a)
    (hge : (defScope st).names.lookup e = some .globalImplicit) (hme : X.mg e = some (.ref news)) (hde : (e == ("__debug__" : Str)) = false) (h0 : ∀ f : Addr, (L2.start Ng [V.ref f])[0]? = some (some (V.ref f))) (hn : Ng[1]? = some n) (hln : (defScope st).names.lookup n = some .local) (h5 : Ng.length = 5)
    (hex : ∀ c, raised c → PySem.W.exmOne X.K (.ref (ct c).1) (.ref news) = some true)
    (hS : ∀ (g : Addr) (cdv : Value) (s : Shared) (H : Hp), SuiteD ((cxOf C8.CX0 X.prog X.w X.K X.mg X.base Ng x (defScope st) g cdv X.A X.stack s H C8.E0).nox) ct raised b0 suite dS)
    (TB : LamX.TabB X.base X.mg c P) (hcode : X.env.code = .ref c) (hq : X.env.qual = q) (hmT : (P, q ++ "<lambda>") ∈ tabOf ct) (hu : ∀ p ∈ tabOf ct, p.1 = P → p.2 = q ++ "<lambda>") (hr : Room (k + 2) X.A) (L : LamX.LamS X.env.scope scope) (hdef : defaultsOf params X.env = ([], []))
    (hbind : ∀ (q : Str) (cl : List (Str × Addr)) (pm cv ctv : Value), bindArgs (PySem.W.kla_fn "<lambda>" q params body scope cl pm cv ctv) ⟨[], []⟩ = pure [])
    (hbody : ∀ (A : Around) (outer : List Env) (s : Shared) (H : Hp) (E : XK) (f c' : Addr), Room k (A.deeper (LamX.lamEnv X scope s.heap.objs.size f c')) → TkE (LamX.lamCx X A outer s H E scope f c') E → PEd (LamX.lamCx X A outer s H E scope f c') ct E body d)
    (hrs : ∀ (c : Nat) (a : Addr) (dd : Option Addr) (fs : List EV) (h1 : EH) (v : EV) (h2 : EH), rs c fs h1 = some (v, h2) → dd.isSome = !fs.isEmpty → raised c ∧ dS c a dd [none, some (.exc a dd (ct c).2 fs), none, none, none] h1 = .ok (.rt v) h2)
    (hdb : (x == ("__debug__" : Str)) = false := by decide) (hd : (a == ("__debug__" : Str)) = false := by decide) (hcd : (a == ("__classdict__" : Str)) = false := by decide) :
    PEd X ct E (.Call (.Name x p) [.Lambda params body scope lpos] [] pos) (dWord rs d) := by
  subst hq
  exact xe_wordT T hst hg Sg hNg hva hge hme hde h0 hn hln h5 hex hS TB hcode hmT hu hr L hdef hbind hbody hrs hdb hd hcd
end EE
set_option Elab.async false
set_option linter.all false
set_option maxRecDepth 100000
set_option maxHeartbeats 4000000
namespace WW
open PySem L2 EE
def b_suite (c : Nat) (a : Addr) (d : Option Addr) : DS :=
  (dSeq (dAsg (dLst (dCons (dIsX a d 1 (decide (c = 20))) (dCons (dIsX a d 1 (decide (c = 21))) (dCons (dIsX a d 1 (decide (c = 22))) (dCons (dIsX a d 1 (decide (c = 23))) dNil))))) (dName 2))
  (dSeq (dAsg (dOp fAdd (dVar 2) (dLst (dCons (dIsX a d 1 (decide (c = 24))) (dCons (dIsX a d 1 (decide (c = 25))) (dCons (dIsX a d 1 (decide (c = 26))) (dCons (dIsX a d 1 (decide (c = 27))) dNil)))))) (dName 2))
  (dSeq (dAsg (dOp fAdd (dVar 2) (dLst (dCons (dIsX a d 1 (decide (c = 28))) (dCons (dIsX a d 1 (decide (c = 29))) dNil)))) (dName 2))
  (dSeq (dAsg (dLst (dCons (dC (.str "BadHouse")) (dCons (dC (.str "BadDay")) (dCons (dC (.str "BadWorth")) (dCons (dC (.str "BadLife")) (dCons (dC (.str "NotOwn")) (dCons (dC (.str "BadLetter")) (dCons (dC (.str "BadTies")) (dCons (dC (.str "NoWay")) (dCons (dC (.str "BadRow")) dNil)))))))))) (dName 3))
  (dSeq (dDrop (dBM mApp (dVar 3) (dCons (dC (.str "BadText")) dNil)))
  (dSeq (dIfS (dOr (dB (dOp fNe (dBM mCntB (dVar 2) (dCons (dC (.bl true)) dNil)) (dC (.int 1)))) (dNot (dB (dIsX a d 1 true)))) (dRet (dTup (dCons (dC (.str "other")) (dCons (dC (.int 0)) dNil))))
  dNext)
  (dSeq (dAsg (dOp fIx (dVar 3) (dBM mIdxB (dVar 2) (dCons (dC (.bl true)) dNil))) (dName 4))
  (dRet (dTup (dCons (dVar 4) (dCons (dIf (dB (dOp fEq (dVar 4) (dC (.str "BadRow")))) (if c = 28 then dXf a d 1 "number" else dNoE) (dIf (dB (dOp fEq (dVar 4) (dC (.str "BadText")))) (if c = 29 then dXf a d 1 "row" else dNoE) (dC (.int 0)))) dNil)))))))))))
end WW
set_option Elab.async false
set_option linter.all false
set_option maxRecDepth 100000
set_option maxHeartbeats 4000000
namespace WW
open PySem L2 EE
def kind (c lo n : Nat) : List EV := (List.range n).map fun i => .bl (decide (c = lo + i))
def words : List EV := [.str "BadHouse", .str "BadDay", .str "BadWorth", .str "BadLife", .str "NotOwn", .str "BadLetter", .str "BadTies", .str "NoWay", .str "BadRow", .str "BadText"]
def junk (c : Nat) : EH := [.lst (kind c 20 4), .lst (kind c 24 4), .lst (kind c 20 8), .lst (kind c 28 2), .lst (kind c 20 10), .lst words]
section
variable (h t : EH) (k : Nat)
theorem lst_at : lstAt (h ++ t) (h.length + k) = lstAt t k := by
  unfold lstAt
  rw [List.getElem?_append_right (by omega)]
  simp
theorem lst_at0 : lstAt (h ++ t) h.length = lstAt t 0 := lst_at h t 0
theorem mut_at : mutAt (h ++ t) (h.length + k) = mutAt t k := by
  unfold mutAt
  rw [List.getElem?_append_right (by omega)]
  simp
theorem set_at (o : EO) : (h ++ t).set (h.length + k) o = h ++ t.set k o := by
  rw [List.set_append_right _ _ (by omega)]
  simp
theorem add_at (m n : Nat) : fAdd (.ref (h.length + m)) (.ref (h.length + n)) (h ++ t) = match mutAt t m, mutAt t n with
    | some xs, some ys => if xs.length + ys.length ≤ 100000 then .ok (.ref (h.length + t.length)) (h ++ (t ++ [.lst (xs ++ ys)])) else .no
    | _, _ => .no := by
  show (Res.no).orElse _ = _
  simp only [orE_no, fCat, mut_at, List.length_append, List.append_assoc]
  all_goals (cases mutAt t m <;> cases mutAt t n <;> rfl)
theorem add_at0 (n : Nat) : fAdd (.ref h.length) (.ref (h.length + n)) (h ++ t) = match mutAt t 0, mutAt t n with
    | some xs, some ys => if xs.length + ys.length ≤ 100000 then .ok (.ref (h.length + t.length)) (h ++ (t ++ [.lst (xs ++ ys)])) else .no
    | _, _ => .no := add_at h t 0 n
end
theorem suite20 (a : Addr) (h : EH) : b_suite 20 a none [none, some (.exc a none [] []), none, none, none] h = .ok (.rt (.tup [.str "BadHouse", .int 0])) (h ++ junk 20) := by
  simp [b_suite, dSeq, dAsg, dIsX, dLst, dCons, add_at, add_at0, lst_at, lst_at0, mut_at, set_at, lstAt, mutAt, kBM, mApp, mCntB, mIdxB, boolsE, trueAt, kIfS]
  rw [f_ixL (i := (0 : Int)) (h := _) (xs := words) (v := .str "BadHouse") (by rw [lst_at]; rfl) 0 rfl rfl]
  simp [dXf]
  first | rfl | decide
theorem suite21 (a : Addr) (h : EH) : b_suite 21 a none [none, some (.exc a none [] []), none, none, none] h = .ok (.rt (.tup [.str "BadDay", .int 0])) (h ++ junk 21) := by
  simp [b_suite, dSeq, dAsg, dIsX, dLst, dCons, add_at, add_at0, lst_at, lst_at0, mut_at, set_at, lstAt, mutAt, kBM, mApp, mCntB, mIdxB, boolsE, trueAt, kIfS]
  rw [f_ixL (i := (1 : Int)) (h := _) (xs := words) (v := .str "BadDay") (by rw [lst_at]; rfl) 1 rfl rfl]
  simp [dXf]
  first | rfl | decide
theorem suite22 (a : Addr) (h : EH) : b_suite 22 a none [none, some (.exc a none [] []), none, none, none] h = .ok (.rt (.tup [.str "BadWorth", .int 0])) (h ++ junk 22) := by
  simp [b_suite, dSeq, dAsg, dIsX, dLst, dCons, add_at, add_at0, lst_at, lst_at0, mut_at, set_at, lstAt, mutAt, kBM, mApp, mCntB, mIdxB, boolsE, trueAt, kIfS]
  rw [f_ixL (i := (2 : Int)) (h := _) (xs := words) (v := .str "BadWorth") (by rw [lst_at]; rfl) 2 rfl rfl]
  simp [dXf]
  first | rfl | decide
theorem suite23 (a : Addr) (h : EH) : b_suite 23 a none [none, some (.exc a none [] []), none, none, none] h = .ok (.rt (.tup [.str "BadLife", .int 0])) (h ++ junk 23) := by
  simp [b_suite, dSeq, dAsg, dIsX, dLst, dCons, add_at, add_at0, lst_at, lst_at0, mut_at, set_at, lstAt, mutAt, kBM, mApp, mCntB, mIdxB, boolsE, trueAt, kIfS]
  rw [f_ixL (i := (3 : Int)) (h := _) (xs := words) (v := .str "BadLife") (by rw [lst_at]; rfl) 3 rfl rfl]
  simp [dXf]
  first | rfl | decide
theorem suite24 (a : Addr) (h : EH) : b_suite 24 a none [none, some (.exc a none [] []), none, none, none] h = .ok (.rt (.tup [.str "NotOwn", .int 0])) (h ++ junk 24) := by
  simp [b_suite, dSeq, dAsg, dIsX, dLst, dCons, add_at, add_at0, lst_at, lst_at0, mut_at, set_at, lstAt, mutAt, kBM, mApp, mCntB, mIdxB, boolsE, trueAt, kIfS]
  rw [f_ixL (i := (4 : Int)) (h := _) (xs := words) (v := .str "NotOwn") (by rw [lst_at]; rfl) 4 rfl rfl]
  simp [dXf]
  first | rfl | decide
theorem suite25 (a : Addr) (h : EH) : b_suite 25 a none [none, some (.exc a none [] []), none, none, none] h = .ok (.rt (.tup [.str "BadLetter", .int 0])) (h ++ junk 25) := by
  simp [b_suite, dSeq, dAsg, dIsX, dLst, dCons, add_at, add_at0, lst_at, lst_at0, mut_at, set_at, lstAt, mutAt, kBM, mApp, mCntB, mIdxB, boolsE, trueAt, kIfS]
  rw [f_ixL (i := (5 : Int)) (h := _) (xs := words) (v := .str "BadLetter") (by rw [lst_at]; rfl) 5 rfl rfl]
  simp [dXf]
  first | rfl | decide
theorem suite26 (a : Addr) (h : EH) : b_suite 26 a none [none, some (.exc a none [] []), none, none, none] h = .ok (.rt (.tup [.str "BadTies", .int 0])) (h ++ junk 26) := by
  simp [b_suite, dSeq, dAsg, dIsX, dLst, dCons, add_at, add_at0, lst_at, lst_at0, mut_at, set_at, lstAt, mutAt, kBM, mApp, mCntB, mIdxB, boolsE, trueAt, kIfS]
  rw [f_ixL (i := (6 : Int)) (h := _) (xs := words) (v := .str "BadTies") (by rw [lst_at]; rfl) 6 rfl rfl]
  simp [dXf]
  first | rfl | decide
theorem suite27 (a : Addr) (h : EH) : b_suite 27 a none [none, some (.exc a none [] []), none, none, none] h = .ok (.rt (.tup [.str "NoWay", .int 0])) (h ++ junk 27) := by
  simp [b_suite, dSeq, dAsg, dIsX, dLst, dCons, add_at, add_at0, lst_at, lst_at0, mut_at, set_at, lstAt, mutAt, kBM, mApp, mCntB, mIdxB, boolsE, trueAt, kIfS]
  rw [f_ixL (i := (7 : Int)) (h := _) (xs := words) (v := .str "NoWay") (by rw [lst_at]; rfl) 7 rfl rfl]
  simp [dXf]
  first | rfl | decide
theorem suite28 (a d : Addr) (x : EV) (h : EH) : b_suite 28 a (some d) [none, some (.exc a (some d) ["number"] [x]), none, none, none] h = .ok (.rt (.tup [.str "BadRow", x])) (h ++ junk 28) := by
  simp [b_suite, dSeq, dAsg, dIsX, dLst, dCons, add_at, add_at0, lst_at, lst_at0, mut_at, set_at, lstAt, mutAt, kBM, mApp, mCntB, mIdxB, boolsE, trueAt, kIfS]
  rw [f_ixL (i := (8 : Int)) (h := _) (xs := words) (v := .str "BadRow") (by rw [lst_at]; rfl) 8 rfl rfl]
  simp [dXf]
  first | rfl | decide
theorem suite29 (a d : Addr) (x : EV) (h : EH) : b_suite 29 a (some d) [none, some (.exc a (some d) ["row"] [x]), none, none, none] h = .ok (.rt (.tup [.str "BadText", x])) (h ++ junk 29) := by
  simp [b_suite, dSeq, dAsg, dIsX, dLst, dCons, add_at, add_at0, lst_at, lst_at0, mut_at, set_at, lstAt, mutAt, kBM, mApp, mCntB, mIdxB, boolsE, trueAt, kIfS]
  rw [f_ixL (i := (9 : Int)) (h := _) (xs := words) (v := .str "BadText") (by rw [lst_at]; rfl) 9 rfl rfl]
  simp [dXf]
  first | rfl | decide
end WW
set_option Elab.async false
set_option linter.all false
set_option maxRecDepth 100000
set_option maxHeartbeats 4000000
namespace K09
open PySem L2 EE
def b__law_rows : DS :=
  (dSeq (dAsg (dTup (dCons (dCB fListOf (dCons (dVar 2) dNil)) (dCons (dLst dNil) dNil))) (dGTup 2 (dGCons (dName 3) (dGCons (dName 4) dGNil))))
  (dSeq (dFor (dItR1 (dCons (dCall LW.m__law_drawn (dCons (dVar 0) (dCons (dC (.int 9)) dNil))) dNil)) (dName 5)
  (dSeq (dAsg (dLst dNil) (dName 6))
  (dSeq (dFor (dItL (dSortSet (dVar 3))) (dName 7)
  (dAsg (dOp fAdd (dVar 6) (dLc (dItL (dOp fIx (dVar 1) (dVar 7))) (dName 8) (dB (dOp fNotIn (dVar 8) (dVar 3))) (dTup (dCons (dVar 7) (dCons (dVar 8) dNil))) [8])) (dName 6)))
  (dIfS (dB (dOp fNe (dVar 6) (dLst dNil))) (dSeq (dDrop (dBM mApp (dVar 4) (dCons (dOp fIx (dVar 6) (dCall LW.m__law_drawn (dCons (dVar 0) (dCons (dCB fLen (dCons (dVar 6) dNil)) dNil)))) dNil)))
  (dDrop (dBM mApp (dVar 3) (dCons (dOp fIx (dOp fIx (dVar 4) (dUn fNeg (dC (.int 1)))) (dC (.int 1))) dNil))))
  dNext))))
  (dRet (dVar 4))))
def m__law_rows : DL := dDef 3 9 b__law_rows
theorem u__law_rows (a0 : EV) (a1 : EV) (a2 : EV) (h : EH) : m__law_rows [a0, a1, a2] h = (b__law_rows [some a0, some a1, some a2, none, none, none, none, none, none] h).bind kDef := rfl
def b__law_spoilt : DS :=
  (dSeq (dPar 3 4 (dCons (dCall LW.m__law_drawn (dCons (dVar 0) (dCons (dOp fAdd (dCB fLen (dCons (dVar 1) dNil)) (dC (.int 1))) dNil))) (dCons (dCall LW.m__law_drawn (dCons (dVar 0) (dCons (dC (.int 6)) dNil))) dNil)))
  (dSeq (dAsg (dTup (dCons (dCall LW.m__law_drawn (dCons (dVar 0) (dCons (dVar 2) dNil))) (dCons (dCall LW.m__law_drawn (dCons (dVar 0) (dCons (dVar 2) dNil))) dNil))) (dName 5))
  (dSeq (dIfS (dOr (dB (dOp fEq (dVar 4) (dC (.int 0)))) (dB (dOp fEq (dVar 3) (dCB fLen (dCons (dVar 1) dNil))))) (dRet (dOp fAdd (dOp fAdd (dSl fSl (dVar 1) (dPart none) (dPart (some (dVar 3)))) (dLst (dCons (dVar 5) dNil))) (dSl fSl (dVar 1) (dPart (some (dVar 3))) (dPart none))))
  dNext)
  (dSeq (dIfS (dB (dOp fEq (dVar 4) (dC (.int 1)))) (dRet (dOp fAdd (dSl fSl (dVar 1) (dPart none) (dPart (some (dVar 3)))) (dSl fSl (dVar 1) (dPart (some (dOp fAdd (dVar 3) (dC (.int 1))))) (dPart none))))
  dNext)
  (dSeq (dIfS (dB (dOp fEq (dVar 4) (dC (.int 2)))) (dRet (dOp fAdd (dSl fSl (dVar 1) (dPart none) (dPart (some (dOp fAdd (dVar 3) (dC (.int 1)))))) (dSl fSl (dVar 1) (dPart (some (dVar 3))) (dPart none))))
  dNext)
  (dSeq (dIfS (dB (dOp fEq (dVar 4) (dC (.int 3)))) (dRet (dOp fAdd (dOp fAdd (dSl fSl (dVar 1) (dPart none) (dPart (some (dVar 3)))) (dRev (dSl fSl (dVar 1) (dPart (some (dVar 3))) (dPart (some (dOp fAdd (dVar 3) (dC (.int 2)))))))) (dSl fSl (dVar 1) (dPart (some (dOp fAdd (dVar 3) (dC (.int 2))))) (dPart none))))
  dNext)
  (dSeq (dAsg (dOp fIx (dVar 1) (dVar 3)) (dGTup 2 (dGCons (dName 6) (dGCons (dName 7) dGNil))))
  (dRet (dOp fAdd (dOp fAdd (dSl fSl (dVar 1) (dPart none) (dPart (some (dVar 3)))) (dLst (dCons (dOp fIx (dLst (dCons (dTup (dCons (dVar 7) (dCons (dVar 6) dNil))) (dCons (dTup (dCons (dVar 6) (dCons (dOp fIx (dVar 5) (dC (.int 1))) dNil))) dNil))) (dOp fSub (dVar 4) (dC (.int 4)))) dNil))) (dSl fSl (dVar 1) (dPart (some (dOp fAdd (dVar 3) (dC (.int 1))))) (dPart none)))))))))))
def m__law_spoilt : DL := dDef 3 8 b__law_spoilt
theorem u__law_spoilt (a0 : EV) (a1 : EV) (a2 : EV) (h : EH) : m__law_spoilt [a0, a1, a2] h = (b__law_spoilt [some a0, some a1, some a2, none, none, none, none, none] h).bind kDef := rfl
def rs_word (c : Nat) (fs : List EV) (h : EH) : Option (EV × EH) := match c, fs with
  | 28, [x] => some (.tup [.str "BadRow", x], h ++ WW.junk 28)
  | _, _ => none
def b_law : DS :=
  (dSeq (dAsg (dCall LW.m__law_start (dCons (dVar 0) dNil)) (dName 1))
  (dSeq (dFor (dItR1 (dCons (dC (.int 6)) dNil)) (dName 2)
  (dSeq (dAsg (dOp fAdd (dC (.int 2)) (dCall LW.m__law_drawn (dCons (dVar 1) (dCons (dC (.int 7)) dNil)))) (dName 13))
  (dSeq (dAsg (dCall LW.m__law_ties (dCons (dVar 1) (dCons (dVar 13) dNil))) (dName 14))
  (dSeq (dAsg (dCall LW.m__law_near (dCons (dVar 13) (dCons (dVar 14) dNil))) (dName 3))
  (dSeq (dAsg (dLc (dItR1 (dCons (dOp fAdd (dC (.int 1)) (dCall LW.m__law_drawn (dCons (dVar 1) (dCons (dC (.int 3)) dNil)))) dNil)) (dName 16) dYes (dCall LW.m__law_drawn (dCons (dVar 1) (dCons (dVar 13) dNil))) [16]) (dName 12))
  (dSeq (dAsg (dCall m__law_rows (dCons (dVar 1) (dCons (dVar 3) (dCons (dVar 12) dNil)))) (dName 4))
  (dSeq (dAsg (dOp fAdd (dLc (dItL (dVar 4)) (dName 17) dYes (dOp fIx (dVar 17) (dC (.int 1))) [17]) (dVar 12)) (dName 5))
  (dSeq (dAsg (dLc (dItR1 (dCons (dCall LW.m__law_drawn (dCons (dVar 1) (dCons (dC (.int 5)) dNil))) dNil)) (dName 16) dYes (dOp fIx (dVar 5) (dCall LW.m__law_drawn (dCons (dVar 1) (dCons (dCB fLen (dCons (dVar 5) dNil)) dNil)))) [16]) (dName 15))
  (dSeq (dIfS (dB (dOp fEq (dCall LW.m__law_drawn (dCons (dVar 1) (dCons (dC (.int 4)) dNil))) (dC (.int 0)))) (dDrop (dBM mApp (dVar 15) (dCons (dCall LW.m__law_drawn (dCons (dVar 1) (dCons (dVar 13) dNil))) dNil)))
  dNext)
  (dSeq (dFor (dItR1 (dCons (dCall LW.m__law_drawn (dCons (dVar 1) (dCons (dC (.int 4)) dNil))) dNil)) (dName 6)
  (dAsg (dCall m__law_spoilt (dCons (dVar 1) (dCons (dVar 4) (dCons (dVar 13) dNil)))) (dName 4)))
  (dSeq (dAsg (dLst (dCons (dCB fListOf (dCons (dVar 14) dNil)) (dCons (dCB fListOf (dCons (dVar 12) dNil)) (dCons (dCB fListOf (dCons (dVar 15) dNil)) (dCons (dCB fListOf (dCons (dVar 4) dNil)) dNil))))) (dName 7))
  (dSeq (dIfS (dNot (dB (dCall (LW.m__law_same 6) (dCons (dCallX TW.m_shows (dCons (dVar 13) (dCons (dOp fIx (dVar 7) (dC (.int 0))) (dCons (dOp fIx (dVar 7) (dC (.int 1))) (dCons (dOp fIx (dVar 7) (dC (.int 2))) (dCons (dOp fIx (dVar 7) (dC (.int 3))) dNil)))))) (dCons (dCall TW.m__law_does (dCons (dVar 3) (dCons (dVar 12) (dCons (dVar 15) (dCons (dVar 4) dNil))))) dNil))))) (dRet (dC (.bl false)))
  dNext)
  (dSeq (dIfS (dB (dOp fNe (dVar 7) (dLst (dCons (dVar 14) (dCons (dVar 12) (dCons (dVar 15) (dCons (dVar 4) dNil))))))) (dRet (dC (.bl false)))
  dNext)
  (dSeq (dAsg (dCall LW.m__law_drawn (dCons (dVar 1) (dCons (dOp fAdd (dCB fLen (dCons (dVar 4) dNil)) (dC (.int 1))) dNil))) (dName 8))
  (dSeq (dAsg (dOp fAdd (dC (.int 1)) (dCall LW.m__law_drawn (dCons (dVar 1) (dCons (dOp fPow (dC (.int 10)) (dC (.int 18))) dNil)))) (dName 9))
  (dSeq (dAsg (dOp fIx (dLst (dCons (dTup (dCons (dC (.int 0)) dNil)) (dCons (dTup dNil) (dCons (dTup (dCons (dC (.int 0)) (dCons (dC (.int 1)) (dCons (dC (.int 0)) dNil)))) (dCons (dTup (dCons (dVar 13) (dCons (dC (.int 0)) dNil))) (dCons (dTup (dCons (dC (.int 0)) (dCons (dOp fAdd (dOp fSub (dVar 13) (dC (.int 1))) (dVar 9)) dNil))) (dCons (dTup (dCons (dOp fSub (dC (.int 0)) (dVar 9)) (dCons (dC (.int 0)) dNil))) (dCons (dTup (dCons (dTup (dCons (dC (.int 0)) dNil)) (dCons (dC (.int 1)) dNil))) dNil)))))))) (dCall LW.m__law_drawn (dCons (dVar 1) (dCons (dC (.int 7)) dNil)))) (dName 10))
  (dSeq (dAsg (dOp fAdd (dOp fAdd (dOp fAdd (dSl fSl (dVar 4) (dPart none) (dPart (some (dVar 8)))) (dLst (dCons (dVar 10) dNil))) (dSl fSl (dVar 4) (dPart (some (dVar 8))) (dPart none))) (dOp fMul (dLst (dCons (dTup dNil) dNil)) (dCall LW.m__law_drawn (dCons (dVar 1) (dCons (dC (.int 2)) dNil))))) (dName 11))
  (dIfS (dNot (dB (dCall (LW.m__law_same 6) (dCons (dWord rs_word (dCallX TW.m_shows (dCons (dVar 13) (dCons (dVar 14) (dCons (dVar 12) (dCons (dVar 15) (dCons (dVar 11) dNil))))))) (dCons (dTup (dCons (dC (.str "BadRow")) (dCons (dVar 8) dNil))) dNil))))) (dRet (dC (.bl false)))
  dNext))))))))))))))))))
  (dRet (dC (.bl true)))))
def m_law : DL := dDef 1 18 b_law
theorem u_law (a0 : EV) (h : EH) : m_law [a0] h = (b_law [some a0, none, none, none, none, none, none, none, none, none, none, none, none, none, none, none, none, none] h).bind kDef := rfl
end K09
set_option Elab.async false
set_option linter.all false
set_option maxRecDepth 100000
set_option maxHeartbeats 4000000
namespace K09
open PySem L2 EE LW HW TW
def cutN (rs : List (Nat × Nat)) (lo hi : Option Int) : List (Nat × Nat) := (rs.drop (HT.sIx rs.length 0 lo)).take (HT.sIx rs.length rs.length hi - HT.sIx rs.length 0 lo)
theorem cut_prs (rs : List (Nat × Nat)) (lo hi : Option Int) : cutE (prs rs) lo hi = prs (cutN rs lo hi) := by
  unfold cutE cutN
  rw [prs_len]
  simp [prs]
theorem cutN_mem {rs : List (Nat × Nat)} {lo hi : Option Int} {p : Nat × Nat} (h : p ∈ cutN rs lo hi) : p ∈ rs := List.mem_of_mem_drop (List.mem_of_mem_take h)
theorem cutN_len (rs : List (Nat × Nat)) (lo hi : Option Int) : (cutN rs lo hi).length ≤ rs.length := by
  unfold cutN
  simp
  omega
section
variable {l n : Nat} {rs : List (Nat × Nat)} {es : ES}
def Ev (l n : Nat) (rs : List (Nat × Nat)) (es : ES) (d : DE) (m : Nat) : Prop := ∀ h, lstAt h l = some (prs rs) → ∃ h' k qs, d es h = .ok (.ref k) h' ∧ Fr [] h h' ∧ mutAt h' k = some (prs qs) ∧ Pn n qs ∧ qs.length ≤ m
theorem ev_slice {i : Nat} {lo hi : ES → EH → Res (Option Int)} {a b : Option Int} (hi0 : es[i]? = some (some (.ref l))) (hn : Pn n rs) (h1 : ∀ h, lstAt h l = some (prs rs) → lo es h = .ok a h) (h2 : ∀ h, lstAt h l = some (prs rs) → hi es h = .ok b h) : Ev l n rs es (dSl fSl (dVar i) lo hi) rs.length := fun h e => by
  refine ⟨_, _, cutN rs a b, ?_, Fr.app _ _ _, mutAt_new, fun p hp => hn p (cutN_mem hp), cutN_len _ _ _⟩
  simp [hi0, h1 h e, h2 h e, f_slice e, cut_prs]
theorem ev_add {a b : DE} {m k : Nat} (ha : Ev l n rs es a m) (hb : Ev l n rs es b k) (hmk : m + k ≤ 100000) : Ev l n rs es (dOp fAdd a b) (m + k) := fun h e => by
  obtain ⟨h1, k1, q1, e1, f1, m1, p1, l1⟩ := ha h e
  obtain ⟨h2, k2, q2, e2, f2, m2, p2, l2⟩ := hb h1 (f1.lst e (by simp))
  refine ⟨_, _, q1 ++ q2, ?_, (f1.trans f2).trans (Fr.app _ _ _), mutAt_new, fun p hp => ?_, by rw [List.length_append]; omega⟩
  · simp [e1, e2, f_cat (f2.mut m1 (by simp)) m2 (by simp [prs]; omega), prs_app]
  · rcases List.mem_append.mp hp with hp | hp
    · exact p1 p hp
    · exact p2 p hp
theorem ev_rev {a : DE} {m : Nat} (ha : Ev l n rs es a m) : Ev l n rs es (dRev a) m := fun h e => by
  obtain ⟨h1, k1, q1, e1, f1, m1, p1, l1⟩ := ha h e
  refine ⟨_, _, q1.reverse, ?_, f1.trans (Fr.app _ _ _), mutAt_new, fun p hp => p1 p (List.mem_reverse.mp hp), by rw [List.length_reverse]; exact l1⟩
  simp [e1, f_rev (lst_mut m1), prs]
def Ev1 (l n : Nat) (rs : List (Nat × Nat)) (es : ES) (d : DE) : Prop := ∀ h, lstAt h l = some (prs rs) → ∃ h' a b, d es h = .ok (prE (a, b)) h' ∧ Fr [] h h' ∧ a < n ∧ b < n
theorem ev_one {d : DE} (hd : Ev1 l n rs es d) : Ev l n rs es (dLst (dCons d dNil)) 1 := fun h e => by
  obtain ⟨h1, a, b, e1, f1, ha, hb⟩ := hd h e
  refine ⟨_, _, [(a, b)], ?_, f1.trans (Fr.app _ _ _), mutAt_new, fun p hp => ?_, by simp⟩
  · simp [e1, prs]
  · rw [List.mem_singleton.mp hp]
    exact ⟨ha, hb⟩
end
theorem f_add1 (k : Nat) (h : EH) : fAdd (.int (k : Int)) (.int 1) h = .ok (.int ((k + 1 : Nat) : Int)) h := by simp
theorem spoilt {ns : List Int} {h : EH} {s l n : Nat} {rs : List (Nat × Nat)} {Q : EV → EH → Prop} (hs : St ns h s) (hl : lstAt h l = some (prs rs)) (h2 : 2 ≤ n) (h8 : n ≤ 8) (hn : Pn n rs) (hlen : rs.length ≤ 1000)
    (q : ∀ k qs h', Fr [s] h h' → St ns h' s → mutAt h' k = some (prs qs) → Pn n qs → qs.length ≤ 3 * rs.length + 1 → Q (.ref k) h') : Tri (m__law_spoilt [.ref s, .ref l, .int (n : Int)] h) Q := by
  have lsn : l ≠ s := fun z => by
    subst z
    obtain ⟨o, w1, ⟨b, x, c, rfl, _⟩, _⟩ := hs
    unfold lstAt at hl
    rw [w1] at hl
    simp only [Option.some.injEq] at hl
    have := congrArg (fun z => z[0]?) hl
    cases rs with
    | nil => simp [prs] at this
    | cons p r => simp [prs] at this
  rw [u__law_spoilt]
  unfold b__law_spoilt
  rw [tri_bind, ap_seq, tri_bind]
  refine Tri.mono (Q := fun f h' => ∃ r1 r2 : Int, 0 ≤ r1 ∧ r1 < (rs.length : Int) + 1 ∧ 0 ≤ r2 ∧ r2 < 6 ∧ f = .nx [some (.ref s), some (.ref l), some (.int (n : Int)), some (.int r1), some (.int r2), none, none, none] ∧ St ns h' s ∧ Fr [s] h h') ?_ ?_
  · try simp only [ap_seq, ap_asg, ap_call, ap_callX, ap_cons, ap_var, ap_c, ap_nil, ap_tup, ap_lst, ap_op, ap_cb, ap_ret, ap_drop, ap_ifS, ap_for, ap_B, ap_par, ap_name, ap_gtup, ap_gcons, ap_gnil, ap_kG, ap_itL, ap_itR1, ap_lc, ap_next, ap_un, ap_if, ap_sl, ap_part, ap_part0, ap_kPart, ap_kSl, ap_kSl2, ap_kSl3, ap_bm, ap_kBM2, ap_not, ap_kNot, List.getElem?_cons_zero, List.getElem?_cons_succ, gV_some, bind_ok, bind_er, ap_kCons, ap_kCons2, ap_kCall, ap_kTup, ap_kLst, ap_kOp, ap_kOp2, ap_kAsg, ap_kAsg2, ap_kRet, ap_kDrop, ap_kPar, ap_kB, ap_kIfS, ap_kIf, kSeq_nx, kSeq_rt, kDef_rt, kDef_nx, ap_kLc2, tri_bind, tri_noer, trx_bind, trx_noer, tri_ok, trx_ok, trx_er, List.set_cons_zero, List.set_cons_succ, List.length_cons, List.length_nil, Nat.zero_add, Nat.reduceAdd, Nat.reduceLeDiff, if_true, f_add, f_sub]
    rw [f_len hl]
    try simp only [ap_seq, ap_asg, ap_call, ap_callX, ap_cons, ap_var, ap_c, ap_nil, ap_tup, ap_lst, ap_op, ap_cb, ap_ret, ap_drop, ap_ifS, ap_for, ap_B, ap_par, ap_name, ap_gtup, ap_gcons, ap_gnil, ap_kG, ap_itL, ap_itR1, ap_lc, ap_next, ap_un, ap_if, ap_sl, ap_part, ap_part0, ap_kPart, ap_kSl, ap_kSl2, ap_kSl3, ap_bm, ap_kBM2, ap_not, ap_kNot, List.getElem?_cons_zero, List.getElem?_cons_succ, gV_some, bind_ok, bind_er, ap_kCons, ap_kCons2, ap_kCall, ap_kTup, ap_kLst, ap_kOp, ap_kOp2, ap_kAsg, ap_kAsg2, ap_kRet, ap_kDrop, ap_kPar, ap_kB, ap_kIfS, ap_kIf, kSeq_nx, kSeq_rt, kDef_rt, kDef_nx, ap_kLc2, tri_bind, tri_noer, trx_bind, trx_noer, tri_ok, trx_ok, trx_er, List.set_cons_zero, List.set_cons_succ, List.length_cons, List.length_nil, Nat.zero_add, Nat.reduceAdd, Nat.reduceLeDiff, if_true, f_add, f_sub]
    rw [prs_len]
    refine drawnF hs (by omega) (by omega) fun r1 h3 a1 b1 s1 f1 _ => ?_
    try simp only [ap_seq, ap_asg, ap_call, ap_callX, ap_cons, ap_var, ap_c, ap_nil, ap_tup, ap_lst, ap_op, ap_cb, ap_ret, ap_drop, ap_ifS, ap_for, ap_B, ap_par, ap_name, ap_gtup, ap_gcons, ap_gnil, ap_kG, ap_itL, ap_itR1, ap_lc, ap_next, ap_un, ap_if, ap_sl, ap_part, ap_part0, ap_kPart, ap_kSl, ap_kSl2, ap_kSl3, ap_bm, ap_kBM2, ap_not, ap_kNot, List.getElem?_cons_zero, List.getElem?_cons_succ, gV_some, bind_ok, bind_er, ap_kCons, ap_kCons2, ap_kCall, ap_kTup, ap_kLst, ap_kOp, ap_kOp2, ap_kAsg, ap_kAsg2, ap_kRet, ap_kDrop, ap_kPar, ap_kB, ap_kIfS, ap_kIf, kSeq_nx, kSeq_rt, kDef_rt, kDef_nx, ap_kLc2, tri_bind, tri_noer, trx_bind, trx_noer, tri_ok, trx_ok, trx_er, List.set_cons_zero, List.set_cons_succ, List.length_cons, List.length_nil, Nat.zero_add, Nat.reduceAdd, Nat.reduceLeDiff, if_true, f_add, f_sub]
    refine drawnF s1 (by omega) (by omega) fun r2 h4 a2 b2 s2 f2 _ => ?_
    exact ⟨r1, r2, a1, b1, a2, b2, rfl, s2, f1.trans f2⟩
  rintro f h4 ⟨r1, r2, a1, b1, a2, b2, rfl, s2, f12⟩
  rw [kSeq_nx, ap_seq, tri_bind]
  refine Tri.mono (Q := fun f h' => ∃ r3 r4 : Int, 0 ≤ r3 ∧ r3 < (n : Int) ∧ 0 ≤ r4 ∧ r4 < (n : Int) ∧ f = .nx [some (.ref s), some (.ref l), some (.int (n : Int)), some (.int r1), some (.int r2), some (.tup [.int r3, .int r4]), none, none] ∧ St ns h' s ∧ Fr [s] h h') ?_ ?_
  · try simp only [ap_seq, ap_asg, ap_call, ap_callX, ap_cons, ap_var, ap_c, ap_nil, ap_tup, ap_lst, ap_op, ap_cb, ap_ret, ap_drop, ap_ifS, ap_for, ap_B, ap_par, ap_name, ap_gtup, ap_gcons, ap_gnil, ap_kG, ap_itL, ap_itR1, ap_lc, ap_next, ap_un, ap_if, ap_sl, ap_part, ap_part0, ap_kPart, ap_kSl, ap_kSl2, ap_kSl3, ap_bm, ap_kBM2, ap_not, ap_kNot, List.getElem?_cons_zero, List.getElem?_cons_succ, gV_some, bind_ok, bind_er, ap_kCons, ap_kCons2, ap_kCall, ap_kTup, ap_kLst, ap_kOp, ap_kOp2, ap_kAsg, ap_kAsg2, ap_kRet, ap_kDrop, ap_kPar, ap_kB, ap_kIfS, ap_kIf, kSeq_nx, kSeq_rt, kDef_rt, kDef_nx, ap_kLc2, tri_bind, tri_noer, trx_bind, trx_noer, tri_ok, trx_ok, trx_er, List.set_cons_zero, List.set_cons_succ, List.length_cons, List.length_nil, Nat.zero_add, Nat.reduceAdd, Nat.reduceLeDiff, if_true, f_add, f_sub]
    refine drawnF s2 (by omega) (by omega) fun r3 h5 a3 b3 s3 f3 _ => ?_
    try simp only [ap_seq, ap_asg, ap_call, ap_callX, ap_cons, ap_var, ap_c, ap_nil, ap_tup, ap_lst, ap_op, ap_cb, ap_ret, ap_drop, ap_ifS, ap_for, ap_B, ap_par, ap_name, ap_gtup, ap_gcons, ap_gnil, ap_kG, ap_itL, ap_itR1, ap_lc, ap_next, ap_un, ap_if, ap_sl, ap_part, ap_part0, ap_kPart, ap_kSl, ap_kSl2, ap_kSl3, ap_bm, ap_kBM2, ap_not, ap_kNot, List.getElem?_cons_zero, List.getElem?_cons_succ, gV_some, bind_ok, bind_er, ap_kCons, ap_kCons2, ap_kCall, ap_kTup, ap_kLst, ap_kOp, ap_kOp2, ap_kAsg, ap_kAsg2, ap_kRet, ap_kDrop, ap_kPar, ap_kB, ap_kIfS, ap_kIf, kSeq_nx, kSeq_rt, kDef_rt, kDef_nx, ap_kLc2, tri_bind, tri_noer, trx_bind, trx_noer, tri_ok, trx_ok, trx_er, List.set_cons_zero, List.set_cons_succ, List.length_cons, List.length_nil, Nat.zero_add, Nat.reduceAdd, Nat.reduceLeDiff, if_true, f_add, f_sub]
    refine drawnF s3 (by omega) (by omega) fun r4 h6 a4 b4 s4 f4 _ => ?_
    exact ⟨r3, r4, a3, b3, a4, b4, rfl, s4, (f12.trans f3).trans f4⟩
  rintro f h6 ⟨r3, r4, a3, b3, a4, b4, rfl, s4, fh⟩
  rw [kSeq_nx]
  obtain ⟨k1, rfl⟩ := Int.eq_ofNat_of_zero_le a1
  obtain ⟨k2, rfl⟩ := Int.eq_ofNat_of_zero_le a2
  obtain ⟨k3, rfl⟩ := Int.eq_ofNat_of_zero_le a3
  obtain ⟨k4, rfl⟩ := Int.eq_ofNat_of_zero_le a4
  have hl6 := fh.lst hl (by simpa using lsn)
  clear f12 s2 hl
  generalize ees : ([some (.ref s), some (.ref l), some (.int (n : Int)), some (.int (k1 : Int)), some (.int (k2 : Int)), some (.tup [.int (k3 : Int), .int (k4 : Int)]), none, none] : ES) = es
  have fin : ∀ (d : DE) (m : Nat) (es : ES), Ev l n rs es d m → m ≤ 3 * rs.length + 1 → Tri (dRet d es h6) fun f h' => Tri (kDef f h') Q := fun d m es hd hm => by
    obtain ⟨h7, k, qs, e7, f7, m7, p7, l7⟩ := hd h6 hl6
    simp only [ap_ret, e7, bind_ok, ap_kRet, tri_ok, kDef_rt]
    exact q k qs h7 (fh.trans (f7.weak (by simp))) (s4.fr f7) m7 p7 (by omega)
  have E1 : es[1]? = some (some (.ref l)) := by rw [← ees]; rfl
  have E3 : es[3]? = some (some (.int (k1 : Int))) := by rw [← ees]; rfl
  have E4 : es[4]? = some (some (.int (k2 : Int))) := by rw [← ees]; rfl
  have E5 : es[5]? = some (some (.tup [.int (k3 : Int), .int (k4 : Int)])) := by rw [← ees]; rfl
  have pa : ∀ es : ES, es[3]? = some (some (.int (k1 : Int))) → ∀ h, lstAt h l = some (prs rs) → dPart (some (dVar 3)) es h = .ok (some (k1 : Int)) h := fun es E3 h _ => by simp [E3]
  have pb : ∀ (c : Int) (es : ES), es[3]? = some (some (.int (k1 : Int))) → ∀ h, lstAt h l = some (prs rs) → dPart (some (dOp fAdd (dVar 3) (dC (.int c)))) es h = .ok (some ((k1 : Int) + c)) h := fun c es E3 h _ => by simp [E3]
  have pn : ∀ es : ES, ∀ h, lstAt h l = some (prs rs) → dPart none es h = .ok none h := fun es h _ => rfl
  have S1 := ev_slice (hi := dPart (some (dVar 3))) E1 hn (pn es) (pa es E3)
  have S2 := ev_slice (hi := dPart none) E1 hn (pa es E3) (pn es)
  have S3 := ev_slice (hi := dPart none) E1 hn (pb 1 es E3) (pn es)
  have S4 := ev_slice (hi := dPart (some (dOp fAdd (dVar 3) (dC (.int 1))))) E1 hn (pn es) (pb 1 es E3)
  have S5 := ev_slice (hi := dPart (some (dOp fAdd (dVar 3) (dC (.int 2))))) E1 hn (pa es E3) (pb 2 es E3)
  have S6 := ev_slice (hi := dPart none) E1 hn (pb 2 es E3) (pn es)
  have O1 : Ev1 l n rs es (dVar 5) := fun h _ => ⟨h, k3, k4, by simp [E5], Fr.refl _ _, by omega, by omega⟩
  have A0 := ev_add (ev_add S1 (ev_one O1) (by omega)) S2 (by omega)
  have A1 := ev_add S1 S3 (by omega)
  have A2 := ev_add S4 S2 (by omega)
  have A3 := ev_add (ev_add S1 (ev_rev S5) (by omega)) S6 (by omega)
  have t0 : ∀ c : Int, (dB (dOp fEq (dVar 4) (dC (.int c)))) es h6 = .ok (decide ((k2 : Int) = c)) h6 := fun c => by simp [E4]
  have tl : (dB (dOp fEq (dVar 3) (dCB fLen (dCons (dVar 1) dNil)))) es h6 = .ok (decide ((k1 : Int) = (rs.length : Int))) h6 := by simp [E3, E1, f_len hl6, prs_len]
  have tst : (dOr (dB (dOp fEq (dVar 4) (dC (.int 0)))) (dB (dOp fEq (dVar 3) (dCB fLen (dCons (dVar 1) dNil))))) es h6 = .ok (decide ((k2 : Int) = 0) || decide ((k1 : Int) = (rs.length : Int))) h6 := by
    rw [ap_or, t0, bind_ok, ap_kOr, tl]
    generalize decide ((k2 : Int) = 0) = A
    cases A <;> simp
  have seqR : ∀ (t : DT) (c : Bool) (d : DE) (m : Nat) (b : DS), t es h6 = .ok c h6 → Ev l n rs es d m → m ≤ 3 * rs.length + 1 → (c = false → Tri (b es h6) fun f h' => Tri (kDef f h') Q) → Tri ((dSeq (dIfS t (dRet d) dNext) b) es h6) fun f h' => Tri (kDef f h') Q := fun t c d m b ht hd hm hb => by
    simp only [ap_seq, ap_ifS, ht, bind_ok, ap_kIfS, tri_bind]
    cases c with
    | false => simpa using hb rfl
    | true =>
      obtain ⟨h7, k, qs, e7, f7, m7, p7, l7⟩ := hd h6 hl6
      rw [if_pos rfl]
      simp only [ap_ret, e7, bind_ok, ap_kRet, tri_ok, kSeq_rt, kDef_rt]
      exact q k qs h7 (fh.trans (f7.weak (by simp))) (s4.fr f7) m7 p7 (by omega)
  refine seqR _ _ _ _ _ tst A0 (by omega) fun c0 => ?_
  refine seqR _ _ _ _ _ (t0 1) A1 (by omega) fun c1 => ?_
  refine seqR _ _ _ _ _ (t0 2) A2 (by omega) fun c2 => ?_
  refine seqR _ _ _ _ _ (t0 3) A3 (by omega) fun c3 => ?_
  simp only [Bool.or_eq_false_iff, decide_eq_false_iff_not] at c0 c1 c2 c3
  obtain ⟨c0, c4⟩ := c0
  have hk : k1 < rs.length := by omega
  obtain ⟨⟨a, b⟩, hab⟩ : ∃ p, rs[k1]? = some p := ⟨_, List.getElem?_eq_getElem hk⟩
  obtain ⟨ga, gb⟩ := hn _ (List.mem_of_getElem? hab)
  have e1 : fIx (.ref l) (.int (k1 : Int)) h6 = .ok (prE (a, b)) h6 := f_ixL _ hl6 k1 rfl (by unfold prs; rw [List.getElem?_map, hab]; rfl)
  rw [ap_seq, ap_asg, ap_op, ap_var, E1, gV_some, bind_ok, ap_kOp, ap_var, E3, gV_some, bind_ok, ap_kOp2, e1, bind_ok]
  subst ees
  simp only [ap_kAsg, ap_gtup, List.length_cons, List.length_nil, Nat.zero_add, Nat.reduceAdd, if_true, ap_gcons, ap_name, bind_ok, ap_kG, ap_gnil, ap_kAsg2, List.set_cons_zero, List.set_cons_succ, kSeq_nx, tri_ok]
  have O2 : Ev1 l n rs [some (.ref s), some (.ref l), some (.int (n : Int)), some (.int (k1 : Int)), some (.int (k2 : Int)), some (.tup [.int (k3 : Int), .int (k4 : Int)]), some (.int (a : Int)), some (.int (b : Int))]
      (dOp fIx (dLst (dCons (dTup (dCons (dVar 7) (dCons (dVar 6) dNil))) (dCons (dTup (dCons (dVar 6) (dCons (dOp fIx (dVar 5) (dC (.int 1))) dNil))) dNil))) (dOp fSub (dVar 4) (dC (.int 4)))) := fun h e => by
    have i1 : fIx (.tup [.int (k3 : Int), .int (k4 : Int)]) (.int 1) h = .ok (.int (k4 : Int)) h := f_ixT _ 1 rfl rfl
    have l1 : lstAt (h ++ [EO.lst [prE (b, a), prE (a, k4)]]) h.length = some [prE (b, a), prE (a, k4)] := lstAt_new
    have f1 : Fr [] h (h ++ [EO.lst [prE (b, a), prE (a, k4)]]) := Fr.app _ _ _
    have hc : k2 = 4 ∨ k2 = 5 := by omega
    rcases hc with rfl | rfl
    · refine ⟨_, b, a, ?_, f1, gb, ga⟩
      simp [i1]
      exact f_ixL _ l1 0 rfl rfl
    · refine ⟨_, a, k4, ?_, f1, ga, by omega⟩
      simp [i1]
      exact f_ixL _ l1 1 rfl rfl
  refine fin _ _ _ (ev_add (ev_add (ev_slice (hi := dPart (some (dVar 3))) rfl hn (pn _) (pa _ rfl)) (ev_one O2) (by omega)) (ev_slice (hi := dPart none) rfl hn (pb 1 _ rfl) (pn _)) (by omega)) (by omega)
end K09
set_option Elab.async false
set_option linter.all false
set_option maxRecDepth 100000
set_option maxHeartbeats 4000000
namespace K09
open PySem L2 EE LW HW TW
theorem dd_len : ∀ l : List Int, (dd l).length ≤ l.length
  | [] => Nat.le_refl _
  | x :: r => by
    have := dd_len r
    unfold dd
    split
    · simp; omega
    · simp; omega
theorem intsE_nats (ks : List Nat) : intsE (nats ks) = some (ks.map fun (k : Nat) => (k : Int)) := by
  have : nats ks = (ks.map fun (k : Nat) => (k : Int)).map EV.int := by
    unfold nats
    rw [List.map_map]
    rfl
  rw [this, intsE_map]
theorem usort_nats {n : Nat} {kn : List Nat} (h : Ln n kn) : ∃ ks, (usort (kn.map fun (k : Nat) => (k : Int))).map EV.int = nats ks ∧ Ln n ks ∧ ks.length ≤ kn.length := by
  have hm : ∀ z ∈ usort (kn.map fun (k : Nat) => (k : Int)), ∃ k : Nat, z = (k : Int) ∧ k < n := fun z hz => by
    have h1 := mem_dd.mp ((isort_perm _).mem_iff.mp hz)
    obtain ⟨k, hk, rfl⟩ := List.mem_map.mp h1
    exact ⟨k, rfl, h k hk⟩
  have hl : (usort (kn.map fun (k : Nat) => (k : Int))).length ≤ kn.length := by
    unfold usort
    rw [(isort_perm _).length_eq]
    have := dd_len (kn.map fun (k : Nat) => (k : Int))
    simpa using this
  generalize usort (kn.map fun (k : Nat) => (k : Int)) = us at *
  refine ⟨us.map Int.toNat, ?_, fun x hx => ?_, by simpa using hl⟩
  · unfold nats
    rw [List.map_map]
    refine List.map_congr_left fun z hz => ?_
    obtain ⟨k, rfl, _⟩ := hm z hz
    rfl
  · obtain ⟨z, hz, rfl⟩ := List.mem_map.mp hx
    obtain ⟨k, rfl, hk⟩ := hm z hz
    exact hk
theorem f_nePrsNil {h : EH} {a b : Nat} {rs : List (Nat × Nat)} (ha : lstAt h a = some (prs rs)) (hb : lstAt h b = some []) : fNe (.ref a) (.ref b) h = .ok (.bl (!rs.isEmpty)) h := by
  show (Res.no).orElse _ = _
  have e1 := dat_lst ha (dat0s_prs _ rs)
  have e2 := dat_lst hb (show dat0s (datF h 3) [] = some [] by simp [dat0s])
  simp only [orE_no, fEqD, e1, e2, shaped_prs, Bool.true_and]
  rw [if_pos (by rfl)]
  cases rs with
  | nil => simp [PyData.eqv, PyData.eqvAll]
  | cons x xs => simp [PyData.eqv, PyData.eqvAll]
theorem no_prs {ns : List Int} {h : EH} {s l : Nat} {rs : List (Nat × Nat)} (hs : St ns h s) (hl : lstAt h l = some (prs rs)) : l ≠ s := fun z => by
  subst z
  obtain ⟨o, w1, ⟨b, x, c, rfl, _⟩, _⟩ := hs
  unfold lstAt at hl
  rw [w1] at hl
  simp only [Option.some.injEq] at hl
  have := congrArg (fun z => z[0]?) hl
  cases rs with
  | nil => simp [prs] at this
  | cons p r => simp [prs] at this
theorem f_ixLast {h : EH} {m : Nat} {xs : List EV} {v : EV} (e : lstAt h m = some (xs ++ [v])) : fIx (.ref m) (.int (-1)) h = .ok v h := by
  show (fIxL _ _ _).orElse _ = _
  have : atI (xs ++ [v]) (-1) = some v := by
    unfold atI ixN
    rw [if_neg (by omega), List.length_append]
    rw [if_pos (by simp; omega)]
    simp
    rw [show (-1 + ((xs.length : Int) + 1)).toNat = xs.length by omega]
    simp
  simp only [fIxL, e, this]
  rfl
section
variable {ps : List (Nat × Nat)} {n : Nat}
theorem pairs_of {h : EH} {k kn : Nat} {row known : List Nat} {a : Nat} {es : ES} {Q : EV → EH → Prop} (hr : lstAt h k = some (nats row)) (hk : lstAt h kn = some (nats known)) (ha : a < n) (hrow : Ln n row) (hl : row.length < 1000)
    (e7 : es[7]? = some (some (.int (a : Int)))) (e3 : es[3]? = some (some (.ref kn))) (e8 : 8 < es.length) (q : ∀ qs h', Pn n qs → qs.length ≤ row.length → Fr [] h h' → mutAt (h' ++ [.lst (prs qs)]) h'.length = some (prs qs) → Q (.ref h'.length) (h' ++ [.lst (prs qs)])) :
    Tri (kLc (dName 8) (dB (dOp fNotIn (dVar 8) (dVar 3))) (dTup (dCons (dVar 7) (dCons (dVar 8) dNil))) [8] es ⟨some k, [], fun _ x => x⟩ h) Q := by
  refine tri_lcJ (xs := nats row) (fun i acc h' => h' = h ∧ ∃ qs, acc = prs qs ∧ Pn n qs ∧ qs.length ≤ i ∧ i ≤ row.length) ⟨rfl, [], rfl, fun p hp => by simp at hp, by simp, by omega⟩ (fun i acc h' ⟨q, _⟩ => by subst q; exact hr) (fun i acc h' ⟨_, qs, q1, _, q2, q3⟩ => by subst q1; rw [prs_len]; omega) ?_ ?_
  · rintro i v acc h' K hv ⟨rfl, qs, rfl, hp, hql, hil⟩ hf hK
    obtain ⟨b, hb, rfl⟩ := nats_at hv
    have hbn := hrow b (List.mem_of_getElem? hb)
    have hlt := (List.getElem?_eq_some_iff.mp hb).1
    have w7 : ((wip es [8]).set 8 (some (.int (b : Int))))[7]? = some (some (.int (a : Int))) := by
      simp [wip, e7]
    have w3 : ((wip es [8]).set 8 (some (.int (b : Int))))[3]? = some (some (.ref kn)) := by
      simp [wip, e3]
    have w8 : ((wip es [8]).set 8 (some (.int (b : Int))))[8]? = some (some (.int (b : Int))) := by
      simp [wip, e8]
    generalize (wip es [8]).set 8 (some (.int (b : Int))) = es' at *
    simp [w8, w3, f_notInNat hk b]
    by_cases c : b ∈ known
    · simp [c]
      exact hf _ ⟨rfl, qs, rfl, hp, by omega, by omega⟩
    · simp [c]
      refine hK _ fun Ke hKe => ?_
      simp [w7, w8]
      refine hKe _ _ ⟨rfl, qs ++ [(a, b)], by simp [prs], fun p hpm => ?_, by simp; omega, by omega⟩
      rcases List.mem_append.mp hpm with z | z
      · exact hp p z
      · rw [List.mem_singleton.mp z]
        exact ⟨ha, hbn⟩
  · rintro acc h' ⟨rfl, qs, rfl, hp, hql, hil⟩
    rw [nats_len] at hql
    exact q qs h' hp hql (Fr.refl _ _) mutAt_new
end
end K09
set_option Elab.async false
set_option linter.all false
set_option maxRecDepth 100000
set_option maxHeartbeats 4000000
namespace K09
open PySem L2 EE LW HW TW
theorem nats_get {xs : List Nat} {i : Nat} {a : Nat} (h : xs[i]? = some a) : (nats xs)[i]? = some (.int (a : Int)) := by
  unfold nats
  rw [List.getElem?_map, h]
  rfl
theorem prs_get {xs : List (Nat × Nat)} {i : Nat} {a b : Nat} (h : xs[i]? = some (a, b)) : (prs xs)[i]? = some (.tup [.int (a : Int), .int (b : Int)]) := by
  unfold prs
  rw [List.getElem?_map, h]
  rfl
section
variable {ps : List (Nat × Nat)} {n : Nat}
theorem rows_drawn {ns : List Int} {h : EH} {s r a : Nat} {has : List Nat} {Q : EV → EH → Prop} (hs : St ns h s) (hR : Rows h r n fun i => nats ((List.range n).filter (adj ps i))) (h1 : lstAt h a = some (nats has)) (h2 : 2 ≤ n) (h8 : n ≤ 8) (hh : Ln n has) (hl : has.length ≤ 20)
    (q : ∀ k rs h', Fr [s] h h' → St ns h' s → mutAt h' k = some (prs rs) → Pn n rs → rs.length ≤ 8 → Q (.ref k) h') : Tri (m__law_rows [.ref s, .ref r, .ref a] h) Q := by
  rw [u__law_rows]
  unfold b__law_rows
  rw [tri_bind, ap_seq, tri_bind]
  have e1 := f_list h1
  refine Tri.mono (Q := fun f h' => f = .nx [some (.ref s), some (.ref r), some (.ref a), some (.ref h.length), some (.ref (h.length + 1)), none, none, none, none] ∧ h' = h ++ [EO.lst (nats has), EO.lst []]) ?_ ?_
  · simp [e1]
  rintro f h3 ⟨rfl, rfl⟩
  have m3 : mutAt (h ++ [EO.lst (nats has), EO.lst []]) h.length = some (nats has) := by
    unfold mutAt
    rw [List.getElem?_append_right (Nat.le_refl _), Nat.sub_self]
    rfl
  have m4 : mutAt (h ++ [EO.lst (nats has), EO.lst []]) (h.length + 1) = some (prs []) := by
    unfold mutAt
    rw [List.getElem?_append_right (by omega), Nat.add_sub_cancel_left]
    rfl
  have f3 : Fr [] h (h ++ [EO.lst (nats has), EO.lst []]) := Fr.app _ _ _
  have s3 := hs.fr f3
  have hsl := hs.lt
  have R3 := hR.fr f3
  generalize h ++ [EO.lst (nats has), EO.lst []] = h3 at *
  have k3 := mutAt_lt m4
  rw [kSeq_nx, ap_seq, tri_bind]
  refine Tri.mono (Q := fun f h' => ∃ rs x5 x6 x7 x8, f = .nx [some (.ref s), some (.ref r), some (.ref a), some (.ref h.length), some (.ref (h.length + 1)), x5, x6, x7, x8] ∧ Fr [s] h h' ∧ St ns h' s ∧ mutAt h' (h.length + 1) = some (prs rs) ∧ Pn n rs ∧ rs.length ≤ 8) ?_ ?_
  · rw [ap_for, ap_itR1]
    simp only [ap_cons, ap_call, ap_var, ap_c, ap_nil, List.getElem?_cons_zero, gV_some, bind_ok, ap_kCons, ap_kCons2, ap_kCall, tri_bind, tri_noer]
    refine drawnF s3 (by decide) (by decide) fun r1 h4 r1a r1b s4 f4 l4 => ?_
    simp only [ap_kCons2, bind_ok, ap_kItR1 h4 r1 (by omega) (by omega), tri_ok]
    have f34 := (f3.weak (Y := [s]) (by simp)).trans f4
    refine tri_for (xs := rng 0 r1.toNat) (fun i es h' => (∃ x5 x6 x7 x8, es = [some (.ref s), some (.ref r), some (.ref a), some (.ref h.length), some (.ref (h.length + 1)), x5, x6, x7, x8]) ∧ Fr [s] h h' ∧ Fr [s, h.length, h.length + 1] h3 h' ∧ St ns h' s ∧ ∃ kn rs, mutAt h' h.length = some (nats kn) ∧ mutAt h' (h.length + 1) = some (prs rs) ∧ Ln n kn ∧ Pn n rs ∧ kn.length ≤ has.length + i ∧ rs.length ≤ i)
      ⟨⟨_, _, _, _, rfl⟩, f34, f4.weak (by simp), s4, has, [], f4.mut m3 (by simp; omega), f4.mut m4 (by simp; omega), hh, fun p hp => by simp at hp, by omega, by simp⟩ (fun _ _ _ _ => rfl) ?_ ?_
    · rintro i v es h5 K hv ⟨⟨x5, x6, x7, x8, rfl⟩, f5, g5, s5, kn, rs, m5, n5, pk, pr, lk, lr⟩ hK _ _ _
      obtain ⟨hi, rfl⟩ := rng_at hv
      simp only [ap_name, tri_ok, List.set_cons_zero, List.set_cons_succ]
      rw [ap_seq, tri_bind]
      simp only [ap_asg, ap_lst, ap_nil, bind_ok, ap_kLst, List.length_nil, Nat.zero_le, if_true, ap_kAsg, ap_name, ap_kAsg2, tri_ok, kSeq_nx, List.set_cons_zero, List.set_cons_succ]
      have e6 : mutAt (h5 ++ [EO.lst []]) h5.length = some (prs []) := mutAt_new
      have f6 : Fr [] h5 (h5 ++ [EO.lst []]) := Fr.app _ _ _
      generalize eh6 : h5 ++ [EO.lst []] = h6 at *
      rw [ap_seq, tri_bind]
      -- the pairs
      refine Tri.mono (Q := fun f h' => ∃ p qs x7 x8, f = .nx [some (.ref s), some (.ref r), some (.ref a), some (.ref h.length), some (.ref (h.length + 1)), some (.int (i : Int)), some (.ref p), x7, x8] ∧ Fr [] h6 h' ∧ lstAt h' p = some (prs qs) ∧ Pn n qs ∧ qs.length ≤ 1000) ?_ ?_
      · obtain ⟨ks, ek, pks, lks⟩ := usort_nats pk
        have l6 := f6.lst (lst_mut m5) (by simp)
        have so : dSortSet (dVar 3) [some (.ref s), some (.ref r), some (.ref a), some (.ref h.length), some (.ref (h.length + 1)), some (.int (i : Int)), some (.ref h5.length), x7, x8] h6 = .ok (.ref h6.length) (h6 ++ [.lst (nats ks)]) := by
          unfold dSortSet
          simp [l6, intsE_nats]
          rw [if_pos (by omega), ek]
        have l7 : lstAt (h6 ++ [EO.lst (nats ks)]) h6.length = some (nats ks) := lstAt_new
        have f7 : Fr [] h6 (h6 ++ [EO.lst (nats ks)]) := Fr.app _ _ _
        rw [ap_for, ap_itL, so]
        generalize h6 ++ [EO.lst (nats ks)] = h7 at *
        simp only [bind_ok, kItL_ref l7]
        refine tri_for (xs := nats ks) (fun j es h' => ∃ p qs x7 x8, es = [some (.ref s), some (.ref r), some (.ref a), some (.ref h.length), some (.ref (h.length + 1)), some (.int (i : Int)), some (.ref p), x7, x8] ∧ Fr [] h7 h' ∧ mutAt h' p = some (prs qs) ∧ Pn n qs ∧ qs.length ≤ 8 * j ∧ j ≤ ks.length)
          ⟨_, [], _, _, rfl, Fr.refl _ _, f7.mut e6 (by simp), fun p hp => by simp at hp, by simp, by omega⟩ (fun _ _ _ ⟨_, _, _, _, _, f, _⟩ => f.lst l7 (by simp)) ?_ ?_
        · rintro j v es h8 K hv ⟨p, qs, x7, x8, rfl, f8, m8, pq, lq, lj⟩ hK _ _ _
          obtain ⟨c, hc, rfl⟩ := nats_at hv
          have hcn := pks c (List.mem_of_getElem? hc)
          have hjl := (List.getElem?_eq_some_iff.mp hc).1
          have f38 := (f6.trans f7).trans f8
          have R8 := (hR.frS hs f5).fr f38
          obtain ⟨row, e8, lrow⟩ := R8.get hcn
          have lk8 := f38.lst (lst_mut m5) (by simp)
          simp only [ap_name, tri_ok, List.set_cons_zero, List.set_cons_succ, ap_asg, ap_op, ap_var, List.getElem?_cons_zero, List.getElem?_cons_succ, gV_some, bind_ok, ap_kOp, ap_lc, ap_itL, ap_kOp2, e8, kItL_ref lrow, tri_bind]
          have hfl : ((List.range n).filter (adj ps c)).length ≤ 8 := by
            have := List.length_filter_le (adj ps c) (List.range n)
            simp at this
            omega
          refine pairs_of lrow lk8 hcn (fun x hx => by simpa using (List.mem_filter.mp hx).1) (by omega) rfl rfl (by simp) fun qs2 h9 pq2 lq2 f9 m9 => ?_
          have f10 : Fr [] h9 (h9 ++ [EO.lst (prs qs2)]) := Fr.app _ _ _
          have mq := f10.mut (f9.mut m8 (by simp)) (by simp)
          generalize h9 ++ [EO.lst (prs qs2)] = h10 at *
          rw [f_cat mq m9 (by rw [prs_len, prs_len]; omega)]
          simp only [tri_ok, ap_kAsg, ap_name, bind_ok, ap_kAsg2, List.set_cons_zero, List.set_cons_succ]
          refine hK _ _ ⟨_, qs ++ qs2, _, _, rfl, ((f8.trans f9).trans f10).trans (Fr.app _ _ _), by rw [← prs_app]; exact mutAt_new, fun p hp => ?_, by rw [List.length_append]; omega, by omega⟩
          rcases List.mem_append.mp hp with z | z
          · exact pq p z
          · exact pq2 p z
        · rintro es h8 ⟨p, qs, x7, x8, rfl, f8, m8, pq, lq, lj⟩
          rw [nats_len] at lq
          exact ⟨p, qs, _, _, rfl, f7.trans f8, lst_mut m8, pq, by omega⟩
      · rintro f h7 ⟨p, qs, x7, x8, rfl, f7, l7, pq, lq⟩
        rw [kSeq_nx]
        have fX : Fr [] h5 h7 := f6.trans f7
        have l8 : lstAt (h7 ++ [EO.lst []]) h7.length = some [] := lstAt_new
        have f8 : Fr [] h7 (h7 ++ [EO.lst []]) := Fr.app _ _ _
        simp only [ap_ifS, ap_B, ap_op, ap_var, List.getElem?_cons_zero, List.getElem?_cons_succ, gV_some, bind_ok, ap_kOp, ap_lst, ap_nil, ap_kLst, List.length_nil, Nat.zero_le, if_true, ap_kOp2]
        have ne := f_nePrsNil (f8.lst l7 (by simp)) l8
        have fY := fX.trans f8
        have lp8 := f8.lst l7 (by simp)
        generalize h7 ++ [EO.lst []] = h8 at *
        simp only [ne, bind_ok, ap_kB, ap_kIfS]
        have s8 := s5.fr fY
        have m8 := fY.mut m5 (by simp)
        have n8 := fY.mut n5 (by simp)
        have f58 := f5.trans (fY.weak (Y := [s]) (by simp))
        have g58 := g5.trans (fY.weak (Y := [s, h.length, h.length + 1]) (by simp))
        cases qs with
        | nil =>
          simp
          exact hK _ _ ⟨⟨_, _, _, _, rfl⟩, f58, g58, s8, kn, rs, m8, n8, pk, pr, by omega, by omega⟩
        | cons q0 qr =>
          generalize hqs : q0 :: qr = qs at *
          have hqe : qs.isEmpty = false := by rw [← hqs]; rfl
          have hql : 0 < qs.length := by rw [← hqs]; simp
          simp only [hqe, Bool.not_false, if_true, ap_seq, ap_drop, ap_bm, ap_var, List.getElem?_cons_zero, List.getElem?_cons_succ, gV_some, bind_ok, kBM_ref _ _ _ (lst_mut n8), ap_cons, ap_op, ap_kOp, ap_call, ap_cb, ap_nil, ap_kCons, ap_kCons2, f_len lp8, prs_len, ap_kCall, tri_bind, tri_noer]
          refine drawnF s8 (by omega) (by omega) fun r2 h9 r2a r2b s9 f9 l9 => ?_
          obtain ⟨j, rfl⟩ := Int.eq_ofNat_of_zero_le r2a
          have hj : j < qs.length := by omega
          obtain ⟨⟨ca, cb⟩, hc⟩ : ∃ p, qs[j]? = some p := ⟨_, List.getElem?_eq_getElem hj⟩
          obtain ⟨ga, gb⟩ := pq _ (List.mem_of_getElem? hc)
          have ip : fIx (.ref p) (.int (j : Int)) h9 = .ok (.tup [.int (ca : Int), .int (cb : Int)]) h9 := f_ixL _ (f9.lst lp8 (by simpa using no_prs s8 lp8)) j rfl (prs_get hc)
          have n9 := f9.mut n8 (by simp; omega)
          have m9 := f9.mut m8 (by simp; omega)
          simp only [ap_kOp2, ip, tri_ok, ap_kCons, ap_nil, bind_ok, ap_kCons2, ap_kBM2, m_append n9 (by rw [prs_len]; omega), ap_kDrop, kSeq_nx, ap_drop, ap_bm, ap_var, List.getElem?_cons_zero, List.getElem?_cons_succ, gV_some]
          have hl9 := mutAt_lt n9
          have n10 : mutAt (h9.set (h.length + 1) (.lst (prs rs ++ [.tup [.int (ca : Int), .int (cb : Int)]]))) (h.length + 1) = some (prs rs ++ [.tup [.int (ca : Int), .int (cb : Int)]]) := mutAt_set hl9
          have m10 : mutAt (h9.set (h.length + 1) (.lst (prs rs ++ [.tup [.int (ca : Int), .int (cb : Int)]]))) h.length = some (nats kn) := by
            rw [mutAt_ne (by omega)]; exact m9
          have f10 : Fr [h.length + 1] h9 (h9.set (h.length + 1) (.lst (prs rs ++ [.tup [.int (ca : Int), .int (cb : Int)]]))) := (Fr.refl _ _).set (.inl (by simp))
          have s10 : St ns (h9.set (h.length + 1) (.lst (prs rs ++ [.tup [.int (ca : Int), .int (cb : Int)]]))) s := by
            obtain ⟨o, w1, w2, w3, w4⟩ := s9
            exact ⟨o, f10.at w1 (by simp; omega), w2, f10.at w3 (by simp), w4⟩
          have fA : Fr [s] h (h9.set (h.length + 1) (.lst (prs rs ++ [.tup [.int (ca : Int), .int (cb : Int)]]))) := (f58.trans f9).set (.inr (by omega))
          have gA : Fr [s, h.length, h.length + 1] h3 (h9.set (h.length + 1) (.lst (prs rs ++ [.tup [.int (ca : Int), .int (cb : Int)]]))) := (g58.trans (f9.weak (by simp))).set (.inl (by simp))
          generalize h9.set (h.length + 1) (.lst (prs rs ++ [.tup [.int (ca : Int), .int (cb : Int)]])) = h10 at *
          have i1 := f_ixLast (lst_mut n10)
          have i2 : fIx (.tup [.int (ca : Int), .int (cb : Int)]) (.int 1) h10 = .ok (.int (cb : Int)) h10 := f_ixT _ 1 rfl rfl
          have ng : fNeg (.int 1) h10 = .ok (.int (-1)) h10 := rfl
          simp only [kBM_ref _ _ _ (lst_mut m10), ap_cons, ap_op, ap_var, List.getElem?_cons_zero, List.getElem?_cons_succ, gV_some, bind_ok, ap_kOp, ap_un, ap_c, ng, ap_kOp2, i1, i2, ap_kCons, ap_nil, ap_kCons2, ap_kBM2, m_append m10 (by rw [nats_len]; omega), ap_kDrop, tri_ok]
          have hl10 := mutAt_lt m10
          refine hK _ _ ⟨⟨_, _, _, _, rfl⟩, fA.set (.inr (Nat.le_refl _)), gA.set (.inl (by simp)), ?_, kn ++ [cb], rs ++ [(ca, cb)], ?_, ?_, fun x hx => ?_, fun p hp => ?_, by simp; omega, by simp; omega⟩
          · obtain ⟨o, w1, w2, w3, w4⟩ := s10
            exact ⟨o, by rw [List.getElem?_set_ne (by omega)]; exact w1, w2, by rw [List.getElem?_set_ne (by omega)]; exact w3, w4⟩
          · rw [mutAt_set hl10]
            simp [nats]
          · rw [mutAt_ne (by omega), n10]
            simp [prs]
          · rcases List.mem_append.mp hx with z | z
            · exact pk x z
            · rw [List.mem_singleton.mp z]; exact gb
          · rcases List.mem_append.mp hp with z | z
            · exact pr p z
            · rw [List.mem_singleton.mp z]; exact ⟨ga, gb⟩
    · rintro es h5 ⟨⟨x5, x6, x7, x8, rfl⟩, f5, g5, s5, kn, rs, m5, n5, pk, pr, lk, lr⟩
      rw [rng_len] at lr
      exact ⟨rs, _, _, _, _, rfl, f5, s5, n5, pr, by omega⟩
  · rintro f h5 ⟨rs, x5, x6, x7, x8, rfl, f5, s5, m5, pr, lr⟩
    simp
    exact q _ rs h5 f5 s5 m5 pr lr
end
end K09
set_option Elab.async false
set_option linter.all false
set_option maxRecDepth 100000
set_option maxHeartbeats 4000000
namespace K09
open PySem L2 EE LW HW TW
structure Dk (ns : List Int) (h : EH) (n t r a : Nat) (ps : List (Nat × Nat)) (has : List Nat) : Prop where
  st : St ns h 1
  n2 : 2 ≤ n
  n8 : n ≤ 8
  ti : lstAt h t = some (prs ps)
  tok : TiesOk n ps
  tl : ps.length ≤ 40
  rw : Rows h r n fun i => nats ((List.range n).filter (adj ps i))
  hm : mutAt h a = some (nats has)
  hn : Ln n has
  hl : has.length ≤ 3
  hp : 0 < has.length
theorem Dk.ha {ns : List Int} {h : EH} {n t r a : Nat} {ps : List (Nat × Nat)} {has : List Nat} (D : Dk ns h n t r a ps has) : lstAt h a = some (nats has) := lst_mut D.hm
theorem Dk.fr {ns : List Int} {h h' : EH} {n t r a : Nat} {ps : List (Nat × Nat)} {has : List Nat} (D : Dk ns h n t r a ps has) (f : Fr [1] h h') (s : St ns h' 1) : Dk ns h' n t r a ps has :=
  ⟨s, D.n2, D.n8, f.lst D.ti (by simpa using no_prs D.st D.ti), D.tok, D.tl, D.rw.frS D.st f, f.mut D.hm (by simpa using D.st.no D.ha), D.hn, D.hl, D.hp⟩
theorem Dk.fr0 {ns : List Int} {h h' : EH} {n t r a : Nat} {ps : List (Nat × Nat)} {has : List Nat} (D : Dk ns h n t r a ps has) (f : Fr [] h h') : Dk ns h' n t r a ps has :=
  D.fr (f.weak (by simp)) (D.st.fr f)
theorem Dk.pr {ns : List Int} {h h' : EH} {n t r a l : Nat} {ps : List (Nat × Nat)} {has : List Nat} (D : Dk ns h n t r a ps has) (f : Fr [1] h h') {rs : List (Nat × Nat)} (e : lstAt h l = some (prs rs)) : lstAt h' l = some (prs rs) := f.lst e (by simpa using no_prs D.st e)
theorem Dk.na {ns : List Int} {h h' : EH} {n t r a l : Nat} {ps : List (Nat × Nat)} {has : List Nat} (D : Dk ns h n t r a ps has) (f : Fr [1] h h') {rs : List Nat} (e : lstAt h l = some (nats rs)) : lstAt h' l = some (nats rs) := f.lst e (by simpa using D.st.no e)
theorem lc_drawn {ns : List Int} {h : EH} {n k j m : Nat} {es : ES} {Q : EV → EH → Prop} (hs : St ns h 1) (h2 : 0 < n) (h8 : n ≤ 100) (hk : k < 1000) (e1 : ((wip es [j]))[1]? = some (some (.ref 1))) (em : ((wip es [j]))[m]? = some (some (.int (n : Int)))) (j1 : j ≠ 1) (jm : j ≠ m)
    (q : ∀ xs h', Ln n xs → xs.length = k → Fr [1] h h' → St ns h' 1 → Q (.ref h'.length) (h' ++ [.lst (nats xs)])) : Tri (kLc (dName j) dYes (dCall m__law_drawn (dCons (dVar 1) (dCons (dVar m) dNil))) [j] es ⟨none, rng 0 k, fun _ x => x⟩ h) Q := by
  refine tri_lcJ (xs := rng 0 k) (fun i acc h' => Fr [1] h h' ∧ St ns h' 1 ∧ i ≤ k ∧ ∃ xs, acc = nats xs ∧ Ln n xs ∧ xs.length = i) ⟨Fr.refl _ _, hs, by omega, [], rfl, fun _ hx => by simp at hx, rfl⟩ (fun _ _ _ _ => rfl) (fun i acc h' ⟨_, _, hi, xs, e, _, l⟩ => by subst e; rw [nats_len]; omega) ?_ ?_
  · rintro i v acc h' K hv ⟨f, s, hi, xs, rfl, px, lx⟩ _ hK
    obtain ⟨hi2, rfl⟩ := rng_at hv
    simp only [ap_yes, tri_ok]
    refine hK _ fun Ke hKe => ?_
    have w1 : ((wip es [j]).set j (some (.int (i : Int))))[1]? = some (some (.ref 1)) := by rw [List.getElem?_set_ne j1]; exact e1
    have wm : ((wip es [j]).set j (some (.int (i : Int))))[m]? = some (some (.int (n : Int))) := by rw [List.getElem?_set_ne jm]; exact em
    simp only [ap_call, ap_cons, ap_var, w1, gV_some, bind_ok, ap_kCons, wm, ap_nil, ap_kCons2, ap_kCall, tri_noer]
    refine drawnF s (by omega) (by omega) fun r h3 ra rb s3 f3 _ => ?_
    obtain ⟨c, rfl⟩ := Int.eq_ofNat_of_zero_le ra
    refine hKe _ _ ⟨f.trans f3, s3, by omega, xs ++ [c], by simp [nats], fun x hx => ?_, by simp [lx]⟩
    rcases List.mem_append.mp hx with z | z
    · exact px x z
    · rw [List.mem_singleton.mp z]; omega
  · rintro acc h' ⟨f, s, hi, xs, rfl, px, lx⟩
    rw [rng_len] at lx
    exact q xs h' px lx f s
theorem lc_some {ns : List Int} {h : EH} {n k j m l : Nat} {some0 : List Nat} {es : ES} {Q : EV → EH → Prop} (hs : St ns h 1) (hl : lstAt h l = some (nats some0)) (hn : Ln n some0) (h0 : 0 < some0.length) (h8 : some0.length ≤ 1000) (hk : k < 1000) (e1 : ((wip es [j]))[1]? = some (some (.ref 1))) (em : ((wip es [j]))[m]? = some (some (.ref l))) (j1 : j ≠ 1) (jm : j ≠ m)
    (q : ∀ xs h', Ln n xs → xs.length = k → Fr [1] h h' → St ns h' 1 → Q (.ref h'.length) (h' ++ [.lst (nats xs)])) : Tri (kLc (dName j) dYes (dOp fIx (dVar m) (dCall m__law_drawn (dCons (dVar 1) (dCons (dCB fLen (dCons (dVar m) dNil)) dNil)))) [j] es ⟨none, rng 0 k, fun _ x => x⟩ h) Q := by
  refine tri_lcJ (xs := rng 0 k) (fun i acc h' => Fr [1] h h' ∧ St ns h' 1 ∧ i ≤ k ∧ ∃ xs, acc = nats xs ∧ Ln n xs ∧ xs.length = i) ⟨Fr.refl _ _, hs, by omega, [], rfl, fun _ hx => by simp at hx, rfl⟩ (fun _ _ _ _ => rfl) (fun i acc h' ⟨_, _, hi, xs, e, _, l⟩ => by subst e; rw [nats_len]; omega) ?_ ?_
  · rintro i v acc h' K hv ⟨f, s, hi, xs, rfl, px, lx⟩ _ hK
    obtain ⟨hi2, rfl⟩ := rng_at hv
    simp only [ap_yes, tri_ok]
    refine hK _ fun Ke hKe => ?_
    have w1 : ((wip es [j]).set j (some (.int (i : Int))))[1]? = some (some (.ref 1)) := by rw [List.getElem?_set_ne j1]; exact e1
    have wm : ((wip es [j]).set j (some (.int (i : Int))))[m]? = some (some (.ref l)) := by rw [List.getElem?_set_ne jm]; exact em
    have hl2 := f.lst hl (by simpa using hs.no hl)
    simp only [ap_op, ap_kOp, ap_cb, ap_call, ap_cons, ap_var, w1, gV_some, bind_ok, ap_kCons, wm, ap_nil, ap_kCons2, f_len hl2, nats_len, ap_kCall, tri_bind, tri_noer]
    refine drawnF s (by omega) (by omega) fun r h3 ra rb s3 f3 _ => ?_
    obtain ⟨c, rfl⟩ := Int.eq_ofNat_of_zero_le ra
    obtain ⟨w, hw⟩ : ∃ w, some0[c]? = some w := ⟨_, List.getElem?_eq_getElem (by omega)⟩
    have ix : fIx (.ref l) (.int (c : Int)) h3 = .ok (.int (w : Int)) h3 := f_ixL _ (f3.lst hl2 (by simpa using s.no hl2)) c rfl (nats_get hw)
    simp only [ap_kOp2, ix, tri_ok]
    refine hKe _ _ ⟨f.trans f3, s3, by omega, xs ++ [w], by simp [nats], fun x hx => ?_, by simp [lx]⟩
    rcases List.mem_append.mp hx with z | z
    · exact px x z
    · rw [List.mem_singleton.mp z]; exact hn w (List.mem_of_getElem? hw)
  · rintro acc h' ⟨f, s, hi, xs, rfl, px, lx⟩
    rw [rng_len] at lx
    exact q xs h' px lx f s
theorem lc_snd {h : EH} {l j : Nat} {rs : List (Nat × Nat)} {es : ES} {Q : EV → EH → Prop} (hl : lstAt h l = some (prs rs)) (hr : rs.length < 1000) (hj : j < es.length)
    (q : Q (.ref h.length) (h ++ [.lst (nats (rs.map (·.2)))])) : Tri (kLc (dName j) dYes (dOp fIx (dVar j) (dC (.int 1))) [j] es ⟨some l, [], fun _ x => x⟩ h) Q := by
  refine tri_lcJ (xs := prs rs) (fun i acc h' => h' = h ∧ acc = nats ((rs.take i).map (·.2))) ⟨rfl, rfl⟩ (fun _ _ _ ⟨e, _⟩ => by subst e; exact hl) (fun i acc h' ⟨_, e⟩ => by subst e; rw [nats_len]; simp; omega) ?_ ?_
  · rintro i v acc h' K hv ⟨rfl, rfl⟩ _ hK
    obtain ⟨a, b, hab, rfl⟩ := prs_at hv
    simp only [ap_yes, tri_ok]
    refine hK _ fun Ke hKe => ?_
    have wj : ((wip es [j]).set j (some (.tup [.int (a : Int), .int (b : Int)])))[j]? = some (some (.tup [.int (a : Int), .int (b : Int)])) := List.getElem?_set_self (by simpa [wip] using hj)
    have ix : fIx (.tup [.int (a : Int), .int (b : Int)]) (.int 1) h' = .ok (.int (b : Int)) h' := f_ixT _ 1 rfl rfl
    simp only [ap_op, ap_var, wj, gV_some, bind_ok, ap_kOp, ap_c, ap_kOp2, ix, tri_ok]
    refine hKe _ _ ⟨rfl, ?_⟩
    rw [take_snoc hab]
    simp [nats]
  · rintro acc h' ⟨rfl, rfl⟩
    rw [prs_len, List.take_length]
    exact q
theorem f_neHanded {h : EH} {x y a b c d a' b' c' d' : Nat} {ps rs : List (Nat × Nat)} {has wants : List Nat} (hx : lstAt h x = some [.ref a, .ref b, .ref c, .ref d]) (hy : lstAt h y = some [.ref a', .ref b', .ref c', .ref d'])
    (h1 : lstAt h a = some (prs ps)) (h2 : lstAt h b = some (nats has)) (h3 : lstAt h c = some (nats wants)) (h4 : lstAt h d = some (prs rs)) (h1' : lstAt h a' = some (prs ps)) (h2' : lstAt h b' = some (nats has)) (h3' : lstAt h c' = some (nats wants)) (h4' : lstAt h d' = some (prs rs)) : fNe (.ref x) (.ref y) h = .ok (.bl false) h := by
  show (Res.no).orElse _ = _
  have key : ∀ x a b c d : Nat, lstAt h x = some [.ref a, .ref b, .ref c, .ref d] → lstAt h a = some (prs ps) → lstAt h b = some (nats has) → lstAt h c = some (nats wants) → lstAt h d = some (prs rs) → dat h (.ref x) = some (.list [.list (ps.map LW.prD), .list (naD has), .list (naD wants), .list (rs.map LW.prD)]) := by
    intro x a b c d hx h1 h2 h3 h4
    refine dat_lst hx ?_
    simp [dat0s, dat0, datF_prs h1 2, datF_nats h2 2, datF_nats h3 2, datF_prs h4 2]
  have en : ∀ xs : List Nat, PyData.eqvAll (naD xs) (naD xs) = true := fun xs => by
    induction xs with
    | nil => simp [PyData.eqvAll]
    | cons x xs ih => simp [PyData.eqvAll, PyData.eqv, ih]
  have sh : SeqAt.shaped (.list [.list (ps.map LW.prD), .list (naD has), .list (naD wants), .list (rs.map LW.prD)]) = true := by
    have a1 := depth_prs ps
    have a2 := depth_prs rs
    have a3 := depth_nats has
    have a4 := depth_nats wants
    unfold SeqAt.shaped
    simp only [PyData.canLay0, PyData.canLayAll0, canLay_prs, canLay_nats, PyData.depth, PyData.depthAll, Bool.true_and, Bool.and_true, decide_eq_true_eq]
    refine decide_eq_true ?_
    omega
  simp only [orE_no, fEqD, key x a b c d hx h1 h2 h3 h4, key y a' b' c' d' hy h1' h2' h3' h4', sh, Bool.and_self, if_true]
  simp [PyData.eqv, PyData.eqvAll, eqv_prs, en]
end K09
set_option Elab.async false
set_option linter.all false
set_option maxRecDepth 100000
set_option maxHeartbeats 4000000
namespace K09
open PySem L2 EE LW HW TW
theorem seq_step {a b : DS} {es : ES} {h : EH} {Q P : Flw → EH → Prop} (h1 : Tri (a es h) P) (h2 : ∀ f h', P f h' → Tri (kSeq b f h') Q) : Tri (dSeq a b es h) Q := by
  rw [ap_seq, tri_bind]
  exact h1.mono h2
theorem same_b {h : EH} (b : Bool) : Tri (m__law_same 6 [.bl b, .bl b] h) fun v h' => v = .bl true ∧ Fr [] h h' := same 6 (.bool b) _ _ h (by simp [Dt]) (by simp [Dt]) (by simp [PyData.depth]) (by simp [sm])
theorem same_row {h : EH} (k : Nat) {x : EV} (hx : EV.tup [.str "BadRow", .int (k : Int)] = x) : Tri (m__law_same 6 [x, x] h) fun v h' => v = .bl true ∧ Fr [] h h' :=
  same 6 (.tuple [.str "BadRow", .int (k : Int)]) x x h (by simp only [Dt, Dts]; exact ⟨_, hx.symm, _, _, rfl, rfl, _, _, rfl, rfl, rfl⟩) (by simp only [Dt, Dts]; exact ⟨_, hx.symm, _, _, rfl, rfl, _, _, rfl, rfl, rfl⟩) (by simp only [PyData.depth, PyData.depthAll]; decide) (by simp only [sm, sms, List.length_cons, List.length_nil]; rfl)
theorem law_okl {ns : List Int} : ∃ h, m_law [.ref 0] [.ro (ns.map EV.int)] = .ok (.bl true) h := by
  suffices hyp : Tri (m_law [.ref 0] [.ro (ns.map EV.int)]) (fun v _ => v = .bl true) by
    obtain ⟨v, h', e, rfl⟩ := hyp.ex
    exact ⟨h', e⟩
  rw [u_law, tri_bind]
  unfold b_law
  refine seq_step (P := fun f h' => f = .nx [some (.ref 0), some (.ref 1), none, none, none, none, none, none, none, none, none, none, none, none, none, none, none, none] ∧ St ns h' 1) ?_ ?_
  · try simp only [ap_seq, ap_asg, ap_call, ap_callX, ap_cons, ap_var, ap_c, ap_nil, ap_tup, ap_lst, ap_op, ap_cb, ap_ret, ap_drop, ap_ifS, ap_for, ap_B, ap_par, ap_name, ap_gtup, ap_gcons, ap_gnil, ap_kG, ap_itL, ap_itR1, ap_lc, ap_next, ap_un, ap_if, ap_sl, ap_part, ap_part0, ap_kPart, ap_kSl, ap_kSl2, ap_kSl3, ap_bm, ap_kBM2, ap_not, ap_kNot, List.getElem?_cons_zero, List.getElem?_cons_succ, gV_some, bind_ok, bind_er, ap_kCons, ap_kCons2, ap_kCall, ap_kTup, ap_kLst, ap_kOp, ap_kOp2, ap_kAsg, ap_kAsg2, ap_kRet, ap_kDrop, ap_kPar, ap_kB, ap_kIfS, ap_kIf, kSeq_nx, kSeq_rt, kDef_rt, kDef_nx, ap_kLc2, tri_bind, tri_noer, trx_bind, trx_noer, tri_ok, trx_ok, trx_er, List.set_cons_zero, List.set_cons_succ, List.length_cons, List.length_nil, Nat.zero_add, Nat.reduceAdd, Nat.reduceLeDiff, if_true, f_add, f_sub]
    exact start rfl fun h1 s1 f1 => ⟨rfl, s1⟩
  rintro f h1 ⟨rfl, s1⟩
  rw [kSeq_nx]
  refine seq_step (P := fun f h' => ∃ es, f = .nx es) ?_ ?_
  rotate_left
  · rintro f h2 ⟨es, rfl⟩
    simp
  rw [ap_for, ap_itR1]
  simp only [ap_cons, ap_c, ap_nil, bind_ok, ap_kCons, ap_kCons2, ap_kItR1 h1 6 (by decide) (by decide)]
  refine tri_for (xs := rng 0 6) (fun i es h' => St ns h' 1 ∧ ∃ x2 x3 x4 x5 x6 x7 x8 x9 x10 x11 x12 x13 x14 x15 x16 x17, es = [some (.ref 0), some (.ref 1), x2, x3, x4, x5, x6, x7, x8, x9, x10, x11, x12, x13, x14, x15, x16, x17]) ⟨s1, _, _, _, _, _, _, _, _, _, _, _, _, _, _, _, _, rfl⟩ (fun _ _ _ _ => rfl) ?_ ?_
  rotate_left
  · rintro es h2 ⟨s2, x2, x3, x4, x5, x6, x7, x8, x9, x10, x11, x12, x13, x14, x15, x16, x17, rfl⟩
    exact ⟨_, rfl⟩
  rintro i v es h2 K hv ⟨s2, x2, x3, x4, x5, x6, x7, x8, x9, x10, x11, x12, x13, x14, x15, x16, x17, rfl⟩ hK _ _ _
  clear hv s1 h1
  simp only [ap_name, tri_ok, List.set_cons_zero, List.set_cons_succ]
  generalize (some v : Option EV) = x2
  -- many
  refine seq_step (P := fun f h' => ∃ n : Nat, 2 ≤ n ∧ n ≤ 8 ∧ St ns h' 1 ∧ f = .nx [some (.ref 0), some (.ref 1), x2, x3, x4, x5, x6, x7, x8, x9, x10, x11, x12, some (.int (n : Int)), x14, x15, x16, x17]) ?_ ?_
  · try simp only [ap_seq, ap_asg, ap_call, ap_callX, ap_cons, ap_var, ap_c, ap_nil, ap_tup, ap_lst, ap_op, ap_cb, ap_ret, ap_drop, ap_ifS, ap_for, ap_B, ap_par, ap_name, ap_gtup, ap_gcons, ap_gnil, ap_kG, ap_itL, ap_itR1, ap_lc, ap_next, ap_un, ap_if, ap_sl, ap_part, ap_part0, ap_kPart, ap_kSl, ap_kSl2, ap_kSl3, ap_bm, ap_kBM2, ap_not, ap_kNot, List.getElem?_cons_zero, List.getElem?_cons_succ, gV_some, bind_ok, bind_er, ap_kCons, ap_kCons2, ap_kCall, ap_kTup, ap_kLst, ap_kOp, ap_kOp2, ap_kAsg, ap_kAsg2, ap_kRet, ap_kDrop, ap_kPar, ap_kB, ap_kIfS, ap_kIf, kSeq_nx, kSeq_rt, kDef_rt, kDef_nx, ap_kLc2, tri_bind, tri_noer, trx_bind, trx_noer, tri_ok, trx_ok, trx_er, List.set_cons_zero, List.set_cons_succ, List.length_cons, List.length_nil, Nat.zero_add, Nat.reduceAdd, Nat.reduceLeDiff, if_true, f_add, f_sub]
    refine drawnF s2 (by decide) (by decide) fun r h3 ra rb s3 f3 _ => ?_
    obtain ⟨n, hn⟩ : ∃ n : Nat, (2 : Int) + r = (n : Int) := Int.eq_ofNat_of_zero_le (by omega)
    simp only [f_add, hn, tri_ok]
    exact ⟨n, by omega, by omega, s3, rfl⟩
  rintro f h3 ⟨n, n2, n8, s3, rfl⟩
  clear s2
  rw [kSeq_nx]
  -- ties
  refine seq_step (P := fun f h' => ∃ t ps, lstAt h' t = some (prs ps) ∧ TiesOk n ps ∧ ps.length ≤ 40 ∧ St ns h' 1 ∧ f = .nx [some (.ref 0), some (.ref 1), x2, x3, x4, x5, x6, x7, x8, x9, x10, x11, x12, some (.int (n : Int)), some (.ref t), x15, x16, x17]) ?_ ?_
  · try simp only [ap_seq, ap_asg, ap_call, ap_callX, ap_cons, ap_var, ap_c, ap_nil, ap_tup, ap_lst, ap_op, ap_cb, ap_ret, ap_drop, ap_ifS, ap_for, ap_B, ap_par, ap_name, ap_gtup, ap_gcons, ap_gnil, ap_kG, ap_itL, ap_itR1, ap_lc, ap_next, ap_un, ap_if, ap_sl, ap_part, ap_part0, ap_kPart, ap_kSl, ap_kSl2, ap_kSl3, ap_bm, ap_kBM2, ap_not, ap_kNot, List.getElem?_cons_zero, List.getElem?_cons_succ, gV_some, bind_ok, bind_er, ap_kCons, ap_kCons2, ap_kCall, ap_kTup, ap_kLst, ap_kOp, ap_kOp2, ap_kAsg, ap_kAsg2, ap_kRet, ap_kDrop, ap_kPar, ap_kB, ap_kIfS, ap_kIf, kSeq_nx, kSeq_rt, kDef_rt, kDef_nx, ap_kLc2, tri_bind, tri_noer, trx_bind, trx_noer, tri_ok, trx_ok, trx_er, List.set_cons_zero, List.set_cons_succ, List.length_cons, List.length_nil, Nat.zero_add, Nat.reduceAdd, Nat.reduceLeDiff, if_true, f_add, f_sub]
    exact ties s3 n2 n8 fun t ps h4 tok tl lt _ s4 f4 => ⟨t, ps, lst_mut lt, tok, tl, s4, rfl⟩
  rintro f h4 ⟨t, ps, lt, tok, tl, s4, rfl⟩
  clear s3
  rw [kSeq_nx]
  -- near
  refine seq_step (P := fun f h' => ∃ r, lstAt h' t = some (prs ps) ∧ Rows h' r n (fun i => nats ((List.range n).filter (adj ps i))) ∧ St ns h' 1 ∧ f = .nx [some (.ref 0), some (.ref 1), x2, some (.ref r), x4, x5, x6, x7, x8, x9, x10, x11, x12, some (.int (n : Int)), some (.ref t), x15, x16, x17]) ?_ ?_
  · try simp only [ap_seq, ap_asg, ap_call, ap_callX, ap_cons, ap_var, ap_c, ap_nil, ap_tup, ap_lst, ap_op, ap_cb, ap_ret, ap_drop, ap_ifS, ap_for, ap_B, ap_par, ap_name, ap_gtup, ap_gcons, ap_gnil, ap_kG, ap_itL, ap_itR1, ap_lc, ap_next, ap_un, ap_if, ap_sl, ap_part, ap_part0, ap_kPart, ap_kSl, ap_kSl2, ap_kSl3, ap_bm, ap_kBM2, ap_not, ap_kNot, List.getElem?_cons_zero, List.getElem?_cons_succ, gV_some, bind_ok, bind_er, ap_kCons, ap_kCons2, ap_kCall, ap_kTup, ap_kLst, ap_kOp, ap_kOp2, ap_kAsg, ap_kAsg2, ap_kRet, ap_kDrop, ap_kPar, ap_kB, ap_kIfS, ap_kIf, kSeq_nx, kSeq_rt, kDef_rt, kDef_nx, ap_kLc2, tri_bind, tri_noer, trx_bind, trx_noer, tri_ok, trx_ok, trx_er, List.set_cons_zero, List.set_cons_succ, List.length_cons, List.length_nil, Nat.zero_add, Nat.reduceAdd, Nat.reduceLeDiff, if_true, f_add, f_sub]
    exact near lt n8 fun r h5 hR f5 => ⟨r, f5.lst lt (by simp), hR, s4.fr f5, rfl⟩
  rintro f h5 ⟨r, lt5, hR, s5, rfl⟩
  clear s4 lt
  rw [kSeq_nx]
  -- has
  refine seq_step (P := fun f h' => ∃ a has, Dk ns h' n t r a ps has ∧ f = .nx [some (.ref 0), some (.ref 1), x2, some (.ref r), x4, x5, x6, x7, x8, x9, x10, x11, some (.ref a), some (.int (n : Int)), some (.ref t), x15, x16, x17]) ?_ ?_
  · rw [ap_asg, ap_lc, ap_itR1]
    simp only [ap_cons, ap_op, ap_c, ap_call, ap_var, List.getElem?_cons_zero, List.getElem?_cons_succ, gV_some, ap_nil, bind_ok, ap_kOp, ap_kCons, ap_kCons2, ap_kCall, tri_bind, tri_noer]
    refine drawnF s5 (by decide) (by decide) fun z h6 za zb s6 f6 _ => ?_
    obtain ⟨k, hk⟩ : ∃ k : Nat, (1 : Int) + z = (k : Int) := Int.eq_ofNat_of_zero_le (by omega)
    simp only [ap_kOp2, f_add, hk, ap_kCons, ap_nil, bind_ok, ap_kCons2, ap_kItR1 h6 (k : Int) (by omega) (by omega), tri_ok]
    refine lc_drawn s6 (by omega) (by omega) (by simp; omega) rfl rfl (by decide) (by decide) fun xs h7 px lx f7 s7 => ?_
    simp only [ap_kAsg, ap_name, bind_ok, ap_kAsg2, tri_ok, List.set_cons_zero, List.set_cons_succ]
    have f67 := f6.trans f7
    have lt7 := f67.lst lt5 (by simpa using no_prs s5 lt5)
    have f8 : Fr [] h7 (h7 ++ [EO.lst (nats xs)]) := Fr.app _ _ _
    refine ⟨_, xs, ⟨s7.fr f8, n2, n8, f8.lst lt7 (by simp), tok, tl, (hR.frS s5 f67).fr f8, mutAt_new, px, by simp at lx; omega, by simp at lx; omega⟩, rfl⟩
  rintro f h6 ⟨a, has, D, rfl⟩
  clear s5 lt5 hR
  rw [kSeq_nx]
  -- rows
  refine seq_step (P := fun f h' => ∃ l rs, Dk ns h' n t r a ps has ∧ lstAt h' l = some (prs rs) ∧ Pn n rs ∧ rs.length ≤ 8 ∧ f = .nx [some (.ref 0), some (.ref 1), x2, some (.ref r), some (.ref l), x5, x6, x7, x8, x9, x10, x11, some (.ref a), some (.int (n : Int)), some (.ref t), x15, x16, x17]) ?_ ?_
  · try simp only [ap_seq, ap_asg, ap_call, ap_callX, ap_cons, ap_var, ap_c, ap_nil, ap_tup, ap_lst, ap_op, ap_cb, ap_ret, ap_drop, ap_ifS, ap_for, ap_B, ap_par, ap_name, ap_gtup, ap_gcons, ap_gnil, ap_kG, ap_itL, ap_itR1, ap_lc, ap_next, ap_un, ap_if, ap_sl, ap_part, ap_part0, ap_kPart, ap_kSl, ap_kSl2, ap_kSl3, ap_bm, ap_kBM2, ap_not, ap_kNot, List.getElem?_cons_zero, List.getElem?_cons_succ, gV_some, bind_ok, bind_er, ap_kCons, ap_kCons2, ap_kCall, ap_kTup, ap_kLst, ap_kOp, ap_kOp2, ap_kAsg, ap_kAsg2, ap_kRet, ap_kDrop, ap_kPar, ap_kB, ap_kIfS, ap_kIf, kSeq_nx, kSeq_rt, kDef_rt, kDef_nx, ap_kLc2, tri_bind, tri_noer, trx_bind, trx_noer, tri_ok, trx_ok, trx_er, List.set_cons_zero, List.set_cons_succ, List.length_cons, List.length_nil, Nat.zero_add, Nat.reduceAdd, Nat.reduceLeDiff, if_true, f_add, f_sub]
    exact rows_drawn D.st D.rw D.ha n2 n8 D.hn (by have := D.hl; omega) fun l rs h7 f7 s7 m7 p7 l7 => ⟨l, rs, D.fr f7 s7, lst_mut m7, p7, l7, rfl⟩
  rintro f h7 ⟨l, rs, D7, l7, p7, lr7, rfl⟩
  clear D
  rw [kSeq_nx]
  -- some
  refine seq_step (P := fun f h' => ∃ m so, Dk ns h' n t r a ps has ∧ lstAt h' l = some (prs rs) ∧ lstAt h' m = some (nats so) ∧ Ln n so ∧ 0 < so.length ∧ so.length ≤ 20 ∧ f = .nx [some (.ref 0), some (.ref 1), x2, some (.ref r), some (.ref l), some (.ref m), x6, x7, x8, x9, x10, x11, some (.ref a), some (.int (n : Int)), some (.ref t), x15, x16, x17]) ?_ ?_
  · rw [ap_asg, ap_op, ap_lc, ap_itL]
    simp only [ap_var, List.getElem?_cons_zero, List.getElem?_cons_succ, gV_some, bind_ok, kItL_ref l7, tri_bind]
    refine lc_snd l7 (by omega) (by simp) ?_
    have f8 : Fr [] h7 (h7 ++ [EO.lst (nats (rs.map (·.2)))]) := Fr.app _ _ _
    have m8 : mutAt (h7 ++ [EO.lst (nats (rs.map (·.2)))]) h7.length = some (nats (rs.map (·.2))) := mutAt_new
    have D8 := D7.fr0 f8
    have l8 := f8.lst l7 (by simp)
    have a8 := D8.hm
    generalize h7 ++ [EO.lst (nats (rs.map (·.2)))] = h8 at *
    have c1 := D8.hl
    have c2 := D8.hp
    simp only [ap_kOp, ap_var, List.getElem?_cons_zero, List.getElem?_cons_succ, gV_some, bind_ok, ap_kOp2, f_cat m8 a8 (by rw [nats_len, nats_len]; simp; omega), nats_app, tri_ok, ap_kAsg, ap_name, ap_kAsg2, List.set_cons_zero, List.set_cons_succ]
    refine ⟨_, rs.map (·.2) ++ has, D8.fr0 (Fr.app _ _ _), lstAt_app l8, lstAt_new, fun x hx => ?_, by simp; omega, by simp; omega, rfl⟩
    rcases List.mem_append.mp hx with z | z
    · obtain ⟨p, hp, rfl⟩ := List.mem_map.mp z
      exact (p7 p hp).2
    · exact D8.hn x z
  rintro f h8 ⟨m, so, D8, l8, m8, pso, so0, lso, rfl⟩
  clear D7 l7
  rw [kSeq_nx]
  -- wants
  refine seq_step (P := fun f h' => ∃ w wants, Fr [1] h8 h' ∧ St ns h' 1 ∧ h8.length ≤ w ∧ mutAt h' w = some (nats wants) ∧ Ln n wants ∧ wants.length ≤ 5 ∧ f = .nx [some (.ref 0), some (.ref 1), x2, some (.ref r), some (.ref l), some (.ref m), x6, x7, x8, x9, x10, x11, some (.ref a), some (.int (n : Int)), some (.ref t), some (.ref w), x16, x17]) ?_ ?_
  · rw [ap_asg, ap_lc, ap_itR1]
    simp only [ap_cons, ap_op, ap_c, ap_call, ap_var, List.getElem?_cons_zero, List.getElem?_cons_succ, gV_some, ap_nil, bind_ok, ap_kOp, ap_kCons, ap_kCons2, ap_kCall, tri_bind, tri_noer]
    refine drawnF D8.st (by decide) (by decide) fun z h9 za zb s9 f9 _ => ?_
    obtain ⟨k, rfl⟩ := Int.eq_ofNat_of_zero_le za
    simp only [ap_kCons2, bind_ok, ap_kItR1 h9 (k : Int) (by omega) (by omega), tri_ok]
    refine lc_some (n := n) s9 (D8.na f9 m8) pso so0 (by omega) (by simp; omega) rfl rfl (by decide) (by decide) fun xs h10 px lx f10 s10 => ?_
    simp only [ap_kAsg, ap_name, bind_ok, ap_kAsg2, tri_ok, List.set_cons_zero, List.set_cons_succ]
    have f11 : Fr [] h10 (h10 ++ [EO.lst (nats xs)]) := Fr.app _ _ _
    have := (f9.trans f10).1
    refine ⟨_, xs, (f9.trans f10).trans (f11.weak (by simp)), s10.fr f11, this, mutAt_new, px, by simp at lx; omega, rfl⟩
  rintro f h9 ⟨w, wants, f9, s9, hw, w9, pw, lw, rfl⟩
  rw [kSeq_nx]
  -- one more, now and then
  refine seq_step (P := fun f h' => ∃ wants, Fr [1] h8 h' ∧ St ns h' 1 ∧ mutAt h' w = some (nats wants) ∧ Ln n wants ∧ wants.length ≤ 6 ∧ f = .nx [some (.ref 0), some (.ref 1), x2, some (.ref r), some (.ref l), some (.ref m), x6, x7, x8, x9, x10, x11, some (.ref a), some (.int (n : Int)), some (.ref t), some (.ref w), x16, x17]) ?_ ?_
  · simp only [ap_ifS, ap_B, ap_op, ap_call, ap_cons, ap_var, ap_c, ap_nil, List.getElem?_cons_zero, List.getElem?_cons_succ, gV_some, bind_ok, ap_kCons, ap_kCons2, ap_kCall, tri_bind, tri_noer, ap_kOp]
    refine drawnF s9 (by decide) (by decide) fun z h10 za zb s10 f10 _ => ?_
    have w10 := f10.mut w9 (by simpa using s9.no (lst_mut w9))
    by_cases hz : z = 0
    · simp only [ap_kOp2, f_eqI, hz, decide_true, tri_ok, ap_kB, ap_kIfS, if_true, ap_drop, ap_bm, ap_var, List.getElem?_cons_zero, List.getElem?_cons_succ, gV_some, bind_ok, kBM_ref _ _ _ (lst_mut w10), ap_cons, ap_call, ap_nil, ap_kCons, ap_kCons2, ap_kCall, tri_bind, tri_noer]
      refine drawnF s10 (by omega) (by omega) fun y h11 ya yb s11 f11 _ => ?_
      obtain ⟨c, rfl⟩ := Int.eq_ofNat_of_zero_le ya
      have w11 := f11.mut w10 (by simpa using s10.no (lst_mut w10))
      have hw1 := s11.no (lst_mut w11)
      have hw0 : 0 < w := by have := D8.st.lt; omega
      have lw11 := mutAt_lt w11
      simp only [ap_kCons, ap_nil, bind_ok, ap_kCons2, ap_kBM2, m_append w11 (by rw [nats_len]; omega), tri_ok, ap_kDrop]
      refine ⟨wants ++ [c], ((f9.trans f10).trans f11).set (.inr hw), ?_, by rw [mutAt_set lw11]; simp [nats], fun x hx => ?_, by simp; omega, by first | rfl | trivial⟩
      · obtain ⟨o, w1, w2, w3, w4⟩ := s11
        exact ⟨o, by rw [List.getElem?_set_ne (by omega)]; exact w1, w2, by rw [List.getElem?_set_ne (by omega)]; exact w3, w4⟩
      · rcases List.mem_append.mp hx with z | z
        · exact pw x z
        · rw [List.mem_singleton.mp z]; omega
    · simp only [ap_kOp2, f_eqI, hz, decide_false, tri_ok, ap_kB, ap_kIfS, Bool.false_eq_true, if_false, ap_next]
      exact ⟨wants, f9.trans f10, s10, w10, pw, by omega, by first | rfl | trivial⟩
  clear s9 f9 w9 pw lw
  rintro f h10 ⟨wants, f10, s10, w10, pw, lw, rfl⟩
  have D10 := D8.fr f10 s10
  have l10 := D8.pr f10 l8
  have w10 := lst_mut w10
  clear D8 l8 m8 f10
  rw [kSeq_nx]
  -- told otherwise
  refine seq_step (P := fun f h' => ∃ l rs x6, Dk ns h' n t r a ps has ∧ lstAt h' l = some (prs rs) ∧ lstAt h' w = some (nats wants) ∧ Pn n rs ∧ rs.length < 300 ∧ f = .nx [some (.ref 0), some (.ref 1), x2, some (.ref r), some (.ref l), some (.ref m), x6, x7, x8, x9, x10, x11, some (.ref a), some (.int (n : Int)), some (.ref t), some (.ref w), x16, x17]) ?_ ?_
  · rw [ap_for, ap_itR1]
    simp only [ap_cons, ap_c, ap_call, ap_var, List.getElem?_cons_zero, List.getElem?_cons_succ, gV_some, ap_nil, bind_ok, ap_kCons, ap_kCons2, ap_kCall, tri_bind, tri_noer]
    refine drawnF s10 (by decide) (by decide) fun z h11 za zb s11 f11 _ => ?_
    simp only [ap_kCons2, bind_ok, ap_kItR1 h11 z (by omega) (by omega), tri_ok]
    have hb : ∀ i ≤ z.toNat, ∀ L, (i = 0 → L ≤ 8) → True := fun _ _ _ _ => trivial
    refine tri_for (xs := rng 0 z.toNat) (fun i es h' => ∃ l rs x6, Dk ns h' n t r a ps has ∧ lstAt h' l = some (prs rs) ∧ lstAt h' w = some (nats wants) ∧ Pn n rs ∧ rs.length ≤ [8, 25, 76, 229].getD i 0 ∧ i ≤ z.toNat ∧ es = [some (.ref 0), some (.ref 1), x2, some (.ref r), some (.ref l), some (.ref m), x6, x7, x8, x9, x10, x11, some (.ref a), some (.int (n : Int)), some (.ref t), some (.ref w), x16, x17])
      ⟨l, rs, x6, D10.fr f11 s11, D10.pr f11 l10, D10.na f11 w10, p7, lr7, by omega, rfl⟩ (fun _ _ _ _ => rfl) ?_ ?_
    · rintro i v es h12 K hv ⟨l, rs, y6, D12, l12, w12, p12, lr, hi, rfl⟩ hK _ _ _
      obtain ⟨hi2, rfl⟩ := rng_at hv
      have hz3 : z.toNat ≤ 3 := by omega
      have hlr : rs.length ≤ 229 := by
        have : i = 0 ∨ i = 1 ∨ i = 2 := by omega
        rcases this with rfl | rfl | rfl <;> simp at lr <;> omega
      simp only [ap_name, tri_ok, List.set_cons_zero, List.set_cons_succ, ap_asg, ap_call, ap_cons, ap_var, List.getElem?_cons_zero, List.getElem?_cons_succ, gV_some, ap_nil, bind_ok, ap_kCons, ap_kCons2, ap_kCall, tri_bind, tri_noer]
      refine spoilt D12.st l12 n2 n8 p12 (by omega) fun k qs h13 f13 s13 m13 p13 lq => ?_
      simp only [ap_kAsg, ap_name, bind_ok, ap_kAsg2, tri_ok, List.set_cons_zero, List.set_cons_succ]
      refine hK _ _ ⟨k, qs, _, D12.fr f13 s13, lst_mut m13, D12.na f13 w12, p13, ?_, by omega, rfl⟩
      have : i = 0 ∨ i = 1 ∨ i = 2 := by omega
      rcases this with rfl | rfl | rfl <;> simp at lr ⊢ <;> omega
    · rintro es h12 ⟨l, rs, y6, D12, l12, w12, p12, lr, hi, rfl⟩
      refine ⟨l, rs, y6, D12, l12, w12, p12, ?_, rfl⟩
      rw [rng_len] at lr
      have : z.toNat = 0 ∨ z.toNat = 1 ∨ z.toNat = 2 ∨ z.toNat = 3 := by omega
      rcases this with e | e | e | e <;> rw [e] at lr <;> simp at lr <;> omega
  clear s10 D10 l10 w10 p7 lr7
  rintro f h11 ⟨l, rs, x6, D11, l11, w11, p11, lr, rfl⟩
  rw [kSeq_nx]
  -- handed
  refine seq_step (P := fun f h' => ∃ d t' a' w' l', Dk ns h' n t r a ps has ∧ lstAt h' l = some (prs rs) ∧ lstAt h' w = some (nats wants) ∧ lstAt h' d = some [.ref t', .ref a', .ref w', .ref l'] ∧ d ≠ 1 ∧ lstAt h' t' = some (prs ps) ∧ lstAt h' a' = some (nats has) ∧ lstAt h' w' = some (nats wants) ∧ lstAt h' l' = some (prs rs) ∧
    f = .nx [some (.ref 0), some (.ref 1), x2, some (.ref r), some (.ref l), some (.ref m), x6, some (.ref d), x8, x9, x10, x11, some (.ref a), some (.int (n : Int)), some (.ref t), some (.ref w), x16, x17]) ?_ ?_
  · have hlt := D11.st.lt
    rw [ap_asg, ap_lst, ap_cons, ap_cb, ap_cons, ap_var]
    simp only [List.getElem?_cons_zero, List.getElem?_cons_succ, gV_some, bind_ok, ap_nil, ap_kCons, ap_kCons2, f_list D11.ti]
    have g1 : Fr [] h11 (h11 ++ [EO.lst (prs ps)]) := Fr.app _ _ _
    have e1 : lstAt (h11 ++ [EO.lst (prs ps)]) h11.length = some (prs ps) := lstAt_new
    have D12 := D11.fr0 g1
    have l12 := g1.lst l11 (by simp)
    have w12 := g1.lst w11 (by simp)
    have lt12 := D12.st.lt
    generalize h11 ++ [EO.lst (prs ps)] = h12 at *
    simp only [ap_cons, ap_cb, ap_var, List.getElem?_cons_zero, List.getElem?_cons_succ, gV_some, bind_ok, ap_nil, ap_kCons, ap_kCons2, f_list D12.ha]
    have g2 : Fr [] h12 (h12 ++ [EO.lst (nats has)]) := Fr.app _ _ _
    have e2 : lstAt (h12 ++ [EO.lst (nats has)]) h12.length = some (nats has) := lstAt_new
    have D13 := D12.fr0 g2
    have l13 := g2.lst l12 (by simp)
    have w13 := g2.lst w12 (by simp)
    generalize h12 ++ [EO.lst (nats has)] = h13 at *
    simp only [ap_cons, ap_cb, ap_var, List.getElem?_cons_zero, List.getElem?_cons_succ, gV_some, bind_ok, ap_nil, ap_kCons, ap_kCons2, f_list w13]
    have g3 : Fr [] h13 (h13 ++ [EO.lst (nats wants)]) := Fr.app _ _ _
    have e3 : lstAt (h13 ++ [EO.lst (nats wants)]) h13.length = some (nats wants) := lstAt_new
    have D14 := D13.fr0 g3
    have l14 := g3.lst l13 (by simp)
    have w14 := g3.lst w13 (by simp)
    generalize h13 ++ [EO.lst (nats wants)] = h14 at *
    simp only [ap_cons, ap_cb, ap_var, List.getElem?_cons_zero, List.getElem?_cons_succ, gV_some, bind_ok, ap_nil, ap_kCons, ap_kCons2, f_list l14]
    have g4 : Fr [] h14 (h14 ++ [EO.lst (prs rs)]) := Fr.app _ _ _
    have e4 : lstAt (h14 ++ [EO.lst (prs rs)]) h14.length = some (prs rs) := lstAt_new
    have D15 := D14.fr0 g4
    have l15 := g4.lst l14 (by simp)
    have w15 := g4.lst w14 (by simp)
    generalize h14 ++ [EO.lst (prs rs)] = h15 at *
    have lt15 := D15.st.lt
    simp only [ap_kLst, List.length_cons, List.length_nil, Nat.zero_add, Nat.reduceAdd, Nat.reduceLeDiff, if_true, bind_ok, ap_kAsg, ap_name, ap_kAsg2, tri_ok, List.set_cons_zero, List.set_cons_succ]
    have g5 : Fr [] h15 (h15 ++ [EO.lst [.ref h11.length, .ref h12.length, .ref h13.length, .ref h14.length]]) := Fr.app _ _ _
    refine ⟨_, h11.length, h12.length, h13.length, h14.length, D15.fr0 g5, g5.lst l15 (by simp), g5.lst w15 (by simp), lstAt_new, by omega, ?_, ?_, ?_, ?_, rfl⟩
    · exact (((g2.trans g3).trans g4).trans g5).lst e1 (by simp)
    · exact ((g3.trans g4).trans g5).lst e2 (by simp)
    · exact (g4.trans g5).lst e3 (by simp)
    · exact g5.lst e4 (by simp)
  clear D11 l11 w11
  rintro f h12 ⟨d, t', a', w', l', D12, l12, w12, d12, hd1, c1, c2, c3, c4, rfl⟩
  rw [kSeq_nx]
  have hhl := D12.hl
  -- shows
  refine seq_step (P := fun f h' => Dk ns h' n t r a ps has ∧ lstAt h' l = some (prs rs) ∧ lstAt h' w = some (nats wants) ∧ lstAt h' d = some [.ref t', .ref a', .ref w', .ref l'] ∧ lstAt h' t' = some (prs ps) ∧ lstAt h' a' = some (nats has) ∧ lstAt h' w' = some (nats wants) ∧ lstAt h' l' = some (prs rs) ∧
    f = .nx [some (.ref 0), some (.ref 1), x2, some (.ref r), some (.ref l), some (.ref m), x6, some (.ref d), x8, x9, x10, x11, some (.ref a), some (.int (n : Int)), some (.ref t), some (.ref w), x16, x17]) ?_ ?_
  · have i0 : fIx (.ref d) (.int 0) h12 = .ok (.ref t') h12 := f_ixL _ d12 0 rfl rfl
    have i1 : fIx (.ref d) (.int 1) h12 = .ok (.ref a') h12 := f_ixL _ d12 1 rfl rfl
    have i2 : fIx (.ref d) (.int 2) h12 = .ok (.ref w') h12 := f_ixL _ d12 2 rfl rfl
    have i3 : fIx (.ref d) (.int 3) h12 = .ok (.ref l') h12 := f_ixL _ d12 3 rfl rfl
    simp only [ap_ifS, ap_not, ap_B, ap_call, ap_callX, ap_cons, ap_op, ap_var, ap_c, ap_nil, List.getElem?_cons_zero, List.getElem?_cons_succ, gV_some, bind_ok, ap_kOp, ap_kOp2, ap_kCons, ap_kCons2, ap_kCall, i0, i1, i2, i3, tri_bind, tri_noer]
    refine shows_ok c1 D12.tok (by have := D12.tl; omega) n2 n8 c2 c3 c4 D12.hn pw p11 (by omega) fun h13 f13 => ?_
    have D13 := D12.fr0 f13
    try simp only [ap_kCons, ap_cons, ap_call, ap_var, ap_nil, List.getElem?_cons_zero, List.getElem?_cons_succ, gV_some, bind_ok, ap_kCons2, ap_kCall, tri_bind, tri_noer]
    refine law_does D13.rw D13.ha (f13.lst w12 (by simp)) (f13.lst l12 (by simp)) p11 (by omega) (by omega) fun h14 f14 => ?_
    try simp only [ap_kCons, ap_nil, bind_ok, ap_kCons2, tri_ok, ap_kCall, tri_noer]
    generalize doesB ps wants has rs = B
    refine (same_b B).mono ?_
    rintro z h15 ⟨rfl, f15⟩
    have F := (f13.trans f14).trans f15
    simp only [ap_kB, tri_ok, ap_kNot, Bool.not_true, ap_kIfS, Bool.false_eq_true, if_false, ap_next]
    exact ⟨D12.fr0 F, F.lst l12 (by simp), F.lst w12 (by simp), F.lst d12 (by simp), F.lst c1 (by simp), F.lst c2 (by simp), F.lst c3 (by simp), F.lst c4 (by simp), by first | rfl | trivial⟩
  clear D12 l12 w12 d12 c1 c2 c3 c4
  rintro f h13 ⟨D13, l13, w13, d13, c1, c2, c3, c4, rfl⟩
  rw [kSeq_nx]
  -- what was handed in stays
  refine seq_step (P := fun f h' => Dk ns h' n t r a ps has ∧ lstAt h' l = some (prs rs) ∧ lstAt h' w = some (nats wants) ∧
    f = .nx [some (.ref 0), some (.ref 1), x2, some (.ref r), some (.ref l), some (.ref m), x6, some (.ref d), x8, x9, x10, x11, some (.ref a), some (.int (n : Int)), some (.ref t), some (.ref w), x16, x17]) ?_ ?_
  · have g1 : Fr [] h13 (h13 ++ [EO.lst [.ref t, .ref a, .ref w, .ref l]]) := Fr.app _ _ _
    have e1 : lstAt (h13 ++ [EO.lst [.ref t, .ref a, .ref w, .ref l]]) h13.length = some [.ref t, .ref a, .ref w, .ref l] := lstAt_new
    have D14 := D13.fr0 g1
    have ne := f_neHanded (g1.lst d13 (by simp)) e1 (g1.lst c1 (by simp)) (g1.lst c2 (by simp)) (g1.lst c3 (by simp)) (g1.lst c4 (by simp)) D14.ti D14.ha (g1.lst w13 (by simp)) (g1.lst l13 (by simp))
    simp only [ap_ifS, ap_B, ap_op, ap_var, ap_lst, ap_cons, ap_nil, List.getElem?_cons_zero, List.getElem?_cons_succ, gV_some, bind_ok, ap_kOp, ap_kCons, ap_kCons2, ap_kLst, List.length_cons, List.length_nil, Nat.zero_add, Nat.reduceAdd, Nat.reduceLeDiff, if_true, ap_kOp2, ne, ap_kB, ap_kIfS, Bool.false_eq_true, if_false, ap_next, tri_ok]
    exact ⟨D14, g1.lst l13 (by simp), g1.lst w13 (by simp), by first | rfl | trivial⟩
  clear D13 l13 w13 d13 c1 c2 c3 c4
  rintro f h14 ⟨D14, l14, w14, rfl⟩
  rw [kSeq_nx]
  -- at
  refine seq_step (P := fun f h' => ∃ k : Nat, k ≤ rs.length ∧ Dk ns h' n t r a ps has ∧ lstAt h' l = some (prs rs) ∧ lstAt h' w = some (nats wants) ∧
    f = .nx [some (.ref 0), some (.ref 1), x2, some (.ref r), some (.ref l), some (.ref m), x6, some (.ref d), some (.int (k : Int)), x9, x10, x11, some (.ref a), some (.int (n : Int)), some (.ref t), some (.ref w), x16, x17]) ?_ ?_
  · simp only [ap_asg, ap_call, ap_cons, ap_op, ap_cb, ap_var, ap_c, ap_nil, List.getElem?_cons_zero, List.getElem?_cons_succ, gV_some, bind_ok, ap_kCons, ap_kCons2, ap_kOp, f_len l14, prs_len, ap_kOp2, f_add, ap_kCall, tri_bind, tri_noer]
    refine drawnF D14.st (by omega) (by omega) fun z h15 za zb s15 f15 _ => ?_
    obtain ⟨k, rfl⟩ := Int.eq_ofNat_of_zero_le za
    simp only [ap_kAsg, ap_name, bind_ok, ap_kAsg2, tri_ok, List.set_cons_zero, List.set_cons_succ]
    exact ⟨k, by omega, D14.fr f15 s15, D14.pr f15 l14, D14.na f15 w14, rfl⟩
  clear D14 l14 w14
  rintro f h15 ⟨k, hk, D15, l15, w15, rfl⟩
  rw [kSeq_nx]
  -- far
  refine seq_step (P := fun f h' => ∃ y : Int, 1 ≤ y ∧ Dk ns h' n t r a ps has ∧ lstAt h' l = some (prs rs) ∧ lstAt h' w = some (nats wants) ∧
    f = .nx [some (.ref 0), some (.ref 1), x2, some (.ref r), some (.ref l), some (.ref m), x6, some (.ref d), some (.int (k : Int)), some (.int y), x10, x11, some (.ref a), some (.int (n : Int)), some (.ref t), some (.ref w), x16, x17]) ?_ ?_
  · simp only [ap_asg, ap_call, ap_cons, ap_op, ap_cb, ap_var, ap_c, ap_nil, List.getElem?_cons_zero, List.getElem?_cons_succ, gV_some, bind_ok, ap_kCons, ap_kCons2, ap_kOp, ap_kOp2, f_pow10, ap_kCall, tri_bind, tri_noer]
    refine drawnF D15.st (by decide) (by decide) fun z h16 za zb s16 f16 _ => ?_
    simp only [ap_kOp2, f_add, tri_ok, ap_kAsg, ap_name, bind_ok, ap_kAsg2, List.set_cons_zero, List.set_cons_succ]
    exact ⟨1 + z, by omega, D15.fr f16 s16, D15.pr f16 l15, D15.na f16 w15, rfl⟩
  clear D15 l15 w15
  rintro f h16 ⟨y, hy, D16, l16, w16, rfl⟩
  rw [kSeq_nx]
  -- odd
  refine seq_step (P := fun f h' => ∃ x : EV, Odd n x ∧ Dk ns h' n t r a ps has ∧ lstAt h' l = some (prs rs) ∧ lstAt h' w = some (nats wants) ∧
    f = .nx [some (.ref 0), some (.ref 1), x2, some (.ref r), some (.ref l), some (.ref m), x6, some (.ref d), some (.int (k : Int)), some (.int y), some x, x11, some (.ref a), some (.int (n : Int)), some (.ref t), some (.ref w), x16, x17]) ?_ ?_
  · rw [ap_asg, ap_op, ap_lst]
    simp only [ap_cons, ap_tup, ap_c, ap_op, ap_var, ap_nil, List.getElem?_cons_zero, List.getElem?_cons_succ, gV_some, bind_ok, ap_kOp, ap_kOp2, f_add, f_sub, ap_kCons, ap_kCons2, ap_kTup, ap_kLst, List.length_cons, List.length_nil, Nat.zero_add, Nat.reduceAdd, Nat.reduceLeDiff, Nat.zero_le, if_true, ap_call, ap_kCall, tri_bind, tri_noer]
    generalize eL : ([EV.tup [.int 0], .tup [], .tup [.int 0, .int 1, .int 0], .tup [.int (n : Int), .int 0], .tup [.int 0, .int ((n : Int) - 1 + y)], .tup [.int (0 - y), .int 0], .tup [.tup [.int 0], .int 1]] : List EV) = L
    have oL : ∀ (j : Nat) x, L[j]? = some x → Odd n x := by
      intro j x hj
      subst eL
      match j, hj with
      | 0, hj => cases hj; exact odd_len (by simp)
      | 1, hj => cases hj; exact odd_len (by simp)
      | 2, hj => cases hj; exact odd_len (by simp)
      | 3, hj => cases hj; exact odd_int (.inl (by omega))
      | 4, hj => cases hj; exact odd_int (.inr (by omega))
      | 5, hj => cases hj; exact odd_int (.inl (by omega))
      | 6, hj => cases hj; exact odd_tup
      | j + 7, hj => simp at hj
    have lL : L.length = 7 := by subst eL; rfl
    have g1 : Fr [] h16 (h16 ++ [EO.lst L]) := Fr.app _ _ _
    have e1 : lstAt (h16 ++ [EO.lst L]) h16.length = some L := lstAt_new
    have D17 := D16.fr0 g1
    have l17 := g1.lst l16 (by simp)
    have w17 := g1.lst w16 (by simp)
    have hlt := D16.st.lt
    generalize h16 ++ [EO.lst L] = h17 at *
    refine drawnF D17.st (by decide) (by decide) fun z h18 za zb s18 f18 _ => ?_
    obtain ⟨j, rfl⟩ := Int.eq_ofNat_of_zero_le za
    obtain ⟨x, hx⟩ : ∃ x, L[j]? = some x := ⟨_, List.getElem?_eq_getElem (by omega)⟩
    have ix : fIx (.ref h16.length) (.int (j : Int)) h18 = .ok x h18 := f_ixL _ (f18.lst e1 (by simp; omega)) j rfl hx
    simp only [ap_kOp2, ix, tri_ok, ap_kAsg, ap_name, bind_ok, ap_kAsg2, List.set_cons_zero, List.set_cons_succ]
    exact ⟨x, oL j x hx, D17.fr f18 s18, D17.pr f18 l17, D17.na f18 w17, rfl⟩
  clear D16 l16 w16
  rintro f h17 ⟨x, hx, D17, l17, w17, rfl⟩
  rw [kSeq_nx]
  -- bad
  refine seq_step (P := fun f h' => ∃ b more, Dk ns h' n t r a ps has ∧ lstAt h' b = some (prs (rs.take k) ++ x :: more) ∧ lstAt h' w = some (nats wants) ∧
    f = .nx [some (.ref 0), some (.ref 1), x2, some (.ref r), some (.ref l), some (.ref m), x6, some (.ref d), some (.int (k : Int)), some (.int y), some x, some (.ref b), some (.ref a), some (.int (n : Int)), some (.ref t), some (.ref w), x16, x17]) ?_ ?_
  · rw [ap_asg, ap_op, ap_op, ap_op, ap_sl]
    simp only [ap_var, ap_part0, ap_part, ap_kPart, ap_kSl, ap_kSl2, ap_kSl3, List.getElem?_cons_zero, List.getElem?_cons_succ, gV_some, bind_ok, f_slice l17]
    have c1 : cutE (prs rs) none (some (k : Int)) = prs (rs.take k) := by
      rw [cut_prs]
      congr 1
      unfold cutN
      rw [show HT.sIx rs.length 0 none = 0 from rfl, show HT.sIx rs.length rs.length (some (k : Int)) = min k rs.length from HT.sIx_nat _ _ _, Nat.min_eq_left hk]
      simp
    have c2 : cutE (prs rs) (some (k : Int)) none = prs (rs.drop k) := by
      rw [cut_drop]
      simp [prs]
    rw [c1]
    have g1 : Fr [] h17 (h17 ++ [EO.lst (prs (rs.take k))]) := Fr.app _ _ _
    have e1 : mutAt (h17 ++ [EO.lst (prs (rs.take k))]) h17.length = some (prs (rs.take k)) := mutAt_new
    generalize h17 ++ [EO.lst (prs (rs.take k))] = h18 at *
    simp only [ap_kOp, ap_lst, ap_cons, ap_var, ap_nil, List.getElem?_cons_zero, List.getElem?_cons_succ, gV_some, bind_ok, ap_kCons, ap_kCons2, ap_kLst, List.length_cons, List.length_nil, Nat.zero_add, Nat.reduceLeDiff, if_true, ap_kOp2]
    have g2 : Fr [] h18 (h18 ++ [EO.lst [x]]) := Fr.app _ _ _
    have e2 : mutAt (h18 ++ [EO.lst [x]]) h18.length = some [x] := mutAt_new
    have e1' := g2.mut e1 (by simp)
    generalize h18 ++ [EO.lst [x]] = h19 at *
    rw [f_cat e1' e2 (by rw [prs_len]; simp; omega)]
    have g3 : Fr [] h19 (h19 ++ [EO.lst (prs (rs.take k) ++ [x])]) := Fr.app _ _ _
    have e3 : mutAt (h19 ++ [EO.lst (prs (rs.take k) ++ [x])]) h19.length = some (prs (rs.take k) ++ [x]) := mutAt_new
    generalize h19 ++ [EO.lst (prs (rs.take k) ++ [x])] = h20 at *
    have l20 := ((g1.trans g2).trans g3).lst l17 (by simp)
    simp only [ap_kOp, ap_sl, ap_var, ap_part0, ap_part, ap_kPart, ap_kSl, ap_kSl2, ap_kSl3, List.getElem?_cons_zero, List.getElem?_cons_succ, gV_some, bind_ok, f_slice l20, c2, ap_kOp2]
    have g4 : Fr [] h20 (h20 ++ [EO.lst (prs (rs.drop k))]) := Fr.app _ _ _
    have e4 : mutAt (h20 ++ [EO.lst (prs (rs.drop k))]) h20.length = some (prs (rs.drop k)) := mutAt_new
    have e3' := g4.mut e3 (by simp)
    generalize h20 ++ [EO.lst (prs (rs.drop k))] = h21 at *
    rw [f_cat e3' e4 (by rw [List.length_append, prs_len, prs_len]; simp; omega)]
    have g5 : Fr [] h21 (h21 ++ [EO.lst (prs (rs.take k) ++ [x] ++ prs (rs.drop k))]) := Fr.app _ _ _
    have e5 : mutAt (h21 ++ [EO.lst (prs (rs.take k) ++ [x] ++ prs (rs.drop k))]) h21.length = some (prs (rs.take k) ++ [x] ++ prs (rs.drop k)) := mutAt_new
    generalize h21 ++ [EO.lst (prs (rs.take k) ++ [x] ++ prs (rs.drop k))] = h22 at *
    simp only [bind_ok, ap_kOp, ap_op, ap_lst, ap_cons, ap_tup, ap_nil, ap_kTup, List.length_nil, Nat.zero_le, if_true, ap_kCons, ap_kCons2, ap_kLst, List.length_cons, Nat.zero_add, Nat.reduceLeDiff, ap_call, ap_var, ap_c, List.getElem?_cons_zero, List.getElem?_cons_succ, gV_some, ap_kCall, tri_bind, tri_noer]
    have g6 : Fr [] h22 (h22 ++ [EO.lst [EV.tup []]]) := Fr.app _ _ _
    have e6 : mutAt (h22 ++ [EO.lst [EV.tup []]]) h22.length = some [EV.tup []] := mutAt_new
    have e5' := g6.mut e5 (by simp)
    have F := ((((g1.trans g2).trans g3).trans g4).trans g5).trans g6
    have D23 := D17.fr0 F
    have l23 := F.lst l17 (by simp)
    have w23 := F.lst w17 (by simp)
    have hlt := D17.st.lt
    have hle := ((((g1.trans g2).trans g3).trans g4).trans g5).1
    have hle2 := (((g1.trans g2).trans g3).trans g4).1
    generalize h22 ++ [EO.lst [EV.tup []]] = h23 at *
    refine drawnF D23.st (by decide) (by decide) fun z h24 za zb s24 f24 _ => ?_
    have e6'' := f24.mut e6 (by simp; omega)
    have e5'' := f24.mut e5' (by simp; omega)
    have D24 := D23.fr f24 s24
    have w24 := D23.na f24 w23
    simp only [ap_kOp2, f_rep z e6'' za (by omega) (by simp), tri_ok]
    have g7 : Fr [] h24 (h24 ++ [EO.lst (List.replicate z.toNat [EV.tup []]).flatten]) := Fr.app _ _ _
    have e7 : mutAt (h24 ++ [EO.lst (List.replicate z.toNat [EV.tup []]).flatten]) h24.length = some (List.replicate z.toNat [EV.tup []]).flatten := mutAt_new
    have e8 := g7.mut e5'' (by simp)
    have hfl : (List.replicate z.toNat [EV.tup []]).flatten.length ≤ 2 := by simp; omega
    generalize (List.replicate z.toNat [EV.tup []]).flatten = mr at *
    generalize h24 ++ [EO.lst mr] = h25 at *
    rw [f_cat e8 e7 (by rw [List.length_append, List.length_append, prs_len, prs_len]; simp; omega)]
    simp only [tri_ok, ap_kAsg, ap_name, bind_ok, ap_kAsg2, List.set_cons_zero, List.set_cons_succ]
    refine ⟨_, prs (rs.drop k) ++ mr, (D24.fr0 g7).fr0 (Fr.app _ _ _), ?_, lstAt_app (g7.lst w24 (by simp)), rfl⟩
    have := @lstAt_new h25 (prs (rs.take k) ++ [x] ++ prs (rs.drop k) ++ mr)
    simpa using this
  clear D17 l17 w17
  rintro f h18 ⟨b, more, D18, l18, w18, rfl⟩
  rw [kSeq_nx]
  have hkl : (rs.take k).length = k := by simp; omega
  have er := shows_er (ps := ps) (n := n) D18.ti D18.tok (by have := D18.tl; omega) n2 n8 D18.ha w18 l18 D18.hn pw (fun p hp => p11 p (List.mem_of_mem_take hp)) hx (by omega)
  rw [hkl] at er
  simp only [ap_ifS, ap_not, ap_B, ap_call, ap_cons, tri_bind]
  refine trx_word (Q := fun v h' => v = .tup [.str "BadRow", .int (k : Int)] ∧ Fr [] h18 h') (E := fun z h' => z = ⟨28, [.int (k : Int)]⟩ ∧ Fr [] h18 h') ?_ ?_ |>.mono ?_
  · simp only [ap_callX, ap_cons, ap_var, ap_nil, List.getElem?_cons_zero, List.getElem?_cons_succ, gV_some, bind_ok, ap_kCons, ap_kCons2]
    exact er.mono (fun _ _ z => z.elim) fun _ _ z => z
  · rintro z h19 ⟨rfl, f19⟩
    exact ⟨_, _, rfl, rfl, f19.trans (Fr.app _ _ _)⟩
  rintro v h19 ⟨rfl, f19⟩
  simp only [ap_kCons, ap_cons, ap_tup, ap_c, ap_var, ap_nil, List.getElem?_cons_zero, List.getElem?_cons_succ, gV_some, bind_ok, ap_kCons2, ap_kTup, List.length_cons, List.length_nil, Nat.zero_add, Nat.reduceAdd, Nat.reduceLeDiff, if_true, tri_ok, ap_kCall, tri_noer]
  generalize hxx : EV.tup [EV.str "BadRow", EV.int (k : Int)] = xx
  refine (same_row k hxx).mono ?_
  rintro z h20 ⟨rfl, f20⟩
  simp only [ap_kB, tri_ok, ap_kNot, Bool.not_true, ap_kIfS, Bool.false_eq_true, if_false, ap_next]
  exact hK _ _ ⟨(D18.fr0 (f19.trans f20)).st, _, _, _, _, _, _, _, _, _, _, _, _, _, _, _, _, rfl⟩
theorem law_ok : EE.LawOk m_law := fun ns _ => law_okl
end K09
set_option Elab.async false
set_option linter.all false
set_option maxRecDepth 100000
set_option maxHeartbeats 4000000
namespace K09
open PySem PySem.Spec PyProof.Rows L2 EE
def topS (i : Nat) : Stmt := PySem.Challenge.pw_newsflood_k09_hand_ons_shown.main.body.getD i (.Pass ⟨0, 0, 0, 0⟩)
abbrev s__law_start : Stmt := topS 27
theorem sc__law_start : FnScope ["_law_script", "_law_mixed", "_law_cell"] ["_law_script"] (defScope s__law_start) := ⟨rfl, rfl, rfl, by decide +kernel, rfl, by decide +kernel, by decide +kernel⟩
abbrev s__law_drawn : Stmt := topS 28
theorem sc__law_drawn : FnScope ["_law_state", "_law_many", "_law_found", "_law_cell"] ["_law_state", "_law_many"] (defScope s__law_drawn) := ⟨rfl, rfl, rfl, by decide +kernel, rfl, by decide +kernel, by decide +kernel⟩
abbrev s__law_ties : Stmt := topS 31
theorem sc__law_ties : FnScope ["_law_state", "_law_many", "_law_found", "_law_k", "_law_one", "_law_other", "_law_house"] ["_law_state", "_law_many"] (defScope s__law_ties) := ⟨rfl, rfl, rfl, by decide +kernel, rfl, by decide +kernel, by decide +kernel⟩
abbrev s__law_near : Stmt := topS 32
theorem sc__law_near : FnScope ["_law_many", "_law_ties_here", "_law_house", "_law_k"] ["_law_many", "_law_ties_here"] (defScope s__law_near) := ⟨rfl, rfl, rfl, by decide +kernel, rfl, by decide +kernel, by decide +kernel⟩
abbrev s__law_rows : Stmt := topS 34
theorem sc__law_rows : FnScope ["_law_state", "_law_near_here", "_law_has", "_law_known", "_law_found", "_law_turn", "_law_pairs", "_law_here", "_law_there"] ["_law_state", "_law_near_here", "_law_has"] (defScope s__law_rows) := ⟨rfl, rfl, rfl, by decide +kernel, rfl, by decide +kernel, by decide +kernel⟩
abbrev s__law_spoilt : Stmt := topS 35
theorem sc__law_spoilt : FnScope ["_law_state", "_law_rows_here", "_law_many", "_law_at", "_law_way", "_law_one", "_law_here", "_law_there"] ["_law_state", "_law_rows_here", "_law_many"] (defScope s__law_spoilt) := ⟨rfl, rfl, rfl, by decide +kernel, rfl, by decide +kernel, by decide +kernel⟩
abbrev s__law_same : Stmt := topS 29
theorem sc__law_same : FnScope ["_law_found", "_law_due", "_law_k"] ["_law_found", "_law_due"] (defScope s__law_same) := ⟨rfl, rfl, rfl, by decide +kernel, rfl, by decide +kernel, by decide +kernel⟩
abbrev s_is_whole : Stmt := topS 15
theorem sc_is_whole : FnScope ["value", "low", "high"] ["value", "low", "high"] (defScope s_is_whole) := ⟨rfl, rfl, rfl, by decide +kernel, rfl, by decide +kernel, by decide +kernel⟩
abbrev s_check_count : Stmt := topS 18
theorem sc_check_count : FnScope ["many"] ["many"] (defScope s_check_count) := ⟨rfl, rfl, rfl, by decide +kernel, rfl, by decide +kernel, by decide +kernel⟩
abbrev s_is_two : Stmt := topS 16
theorem sc_is_two : FnScope ["value", "first", "second"] ["value", "first", "second"] (defScope s_is_two) := ⟨rfl, rfl, rfl, by decide +kernel, rfl, by decide +kernel, by decide +kernel⟩
abbrev s_is_pair : Stmt := topS 17
theorem sc_is_pair : FnScope ["value", "many"] ["value", "many"] (defScope s_is_pair) := ⟨rfl, rfl, rfl, by decide +kernel, rfl, by decide +kernel, by decide +kernel⟩
abbrev s__neighbours : Stmt := topS 23
theorem sc__neighbours : FnScope ["many", "ties", "tie", "near", "one", "other", "house"] ["many", "ties"] (defScope s__neighbours) := ⟨rfl, rfl, rfl, by decide +kernel, rfl, by decide +kernel, by decide +kernel⟩
abbrev s_check_house : Stmt := topS 19
theorem sc_check_house : FnScope ["house", "many"] ["house", "many"] (defScope s_check_house) := ⟨rfl, rfl, rfl, by decide +kernel, rfl, by decide +kernel, by decide +kernel⟩
abbrev s_check_houses : Stmt := topS 20
theorem sc_check_houses : FnScope ["houses", "many", "house"] ["houses", "many"] (defScope s_check_houses) := ⟨rfl, rfl, rfl, by decide +kernel, rfl, by decide +kernel, by decide +kernel⟩
abbrev s__check_rows : Stmt := topS 24
theorem sc__check_rows : FnScope ["rows", "many", "number", "row"] ["rows", "many"] (defScope s__check_rows) := ⟨rfl, rfl, rfl, by decide +kernel, rfl, by decide +kernel, by decide +kernel⟩
abbrev s__all_in : Stmt := topS 25
theorem sc__all_in : FnScope ["wants", "holders", "house"] ["wants", "holders"] (defScope s__all_in) := ⟨rfl, rfl, rfl, by decide +kernel, rfl, by decide +kernel, by decide +kernel⟩
abbrev s_shows : Stmt := topS 22
theorem sc_shows : FnScope ["many", "ties", "has", "wants", "rows", "near", "holders", "one", "other", "house"] ["many", "ties", "has", "wants", "rows"] (defScope s_shows) := ⟨rfl, rfl, rfl, by decide +kernel, rfl, by decide +kernel, by decide +kernel⟩
abbrev s__law_does : Stmt := topS 36
theorem sc__law_does : FnScope ["_law_near_here", "_law_has", "_law_wants", "_law_rows_here", "_law_known", "_law_here", "_law_there", "_law_house"] ["_law_near_here", "_law_has", "_law_wants", "_law_rows_here"] (defScope s__law_does) := ⟨rfl, rfl, rfl, by decide +kernel, rfl, by decide +kernel, by decide +kernel⟩
abbrev s__law_word : Stmt := topS 30
theorem sc__law_word : FnScope ["_law_work", "e", "_law_kinds", "_law_words", "_law_word_here"] ["_law_work"] (defScope s__law_word) := ⟨rfl, rfl, rfl, by decide +kernel, rfl, by decide +kernel, by decide +kernel⟩
def hBody (st : Stmt) : List Stmt := match defBody st with
  | [.Try _ [.ExceptHandler _ _ b _] _ _ _] => b
  | _ => []
abbrev s_law : Stmt := topS 37
theorem sc_law : FnScope ["_law_script", "_law_state", "_law_turn", "_law_near_here", "_law_rows_here", "_law_some", "_law_change", "_law_handed", "_law_at", "_law_far", "_law_odd", "_law_bad", "_law_has", "_law_many", "_law_ties_here", "_law_wants", "_law_k", "_law_row"] ["_law_script"] (defScope s_law) := ⟨rfl, rfl, rfl, by decide +kernel, rfl, by decide +kernel, by decide +kernel⟩
def ctH (A28 P900 P901 : Addr) : Nat → Addr × List Str := fun c => match c with  | 28 => (A28, ["number"]) | 900 => (P900, [(("law" : Str) ++ ".<locals>.") ++ "<lambda>"]) | 901 => (P901, [(("_all_in" : Str) ++ ".<locals>.") ++ "<genexpr>"]) | _ => (0, [])
theorem tabs_eq {A28 P900 P901 : Addr} : tabOf (ctH A28 P900 P901) = [(P900, (("law" : Str) ++ ".<locals>.") ++ "<lambda>"), (P901, (("_all_in" : Str) ++ ".<locals>.") ++ "<genexpr>")] := rfl
theorem mem_0 {A28 P900 P901 : Addr} : (P900, (("law" : Str) ++ ".<locals>.") ++ "<lambda>") ∈ tabOf (ctH A28 P900 P901) := by rw [tabs_eq]; simp
theorem uni_0 {A28 P900 P901 : Addr} (ne : ([P900, P901] : List Addr).Nodup) : ∀ p ∈ tabOf (ctH A28 P900 P901), p.1 = P900 → p.2 = (("law" : Str) ++ ".<locals>.") ++ "<lambda>" := by
  intro p hp h
  rw [tabs_eq] at hp
  simp only [List.mem_cons, List.not_mem_nil, or_false] at hp
  simp only [List.nodup_cons, List.mem_cons, List.not_mem_nil, or_false, not_or, not_false_eq_true, List.nodup_nil, and_true, true_and] at ne
  rcases hp with rfl | rfl
  · rfl
  · exact absurd h (by simp_all)
theorem mem_1 {A28 P900 P901 : Addr} : (P901, (("_all_in" : Str) ++ ".<locals>.") ++ "<genexpr>") ∈ tabOf (ctH A28 P900 P901) := by rw [tabs_eq]; simp
theorem uni_1 {A28 P900 P901 : Addr} (ne : ([P900, P901] : List Addr).Nodup) : ∀ p ∈ tabOf (ctH A28 P900 P901), p.1 = P901 → p.2 = (("_all_in" : Str) ++ ".<locals>.") ++ "<genexpr>" := by
  intro p hp h
  rw [tabs_eq] at hp
  simp only [List.mem_cons, List.not_mem_nil, or_false] at hp
  simp only [List.nodup_cons, List.mem_cons, List.not_mem_nil, or_false, not_or, not_false_eq_true, List.nodup_nil, and_true, true_and] at ne
  rcases hp with rfl | rfl
  · exact absurd h (by simp_all)
  · rfl
abbrev s_BadRow___init__ : Stmt := inClass (topS 10) 0
structure Top (K : Fg) (mg : Str → Option Value) (A28 P900 P901 : Addr) (w : World) (P : Program) (NW c900 c901 : Addr) : Prop where
  b_ValueError : mg "ValueError" = none
  b_all : mg "all" = none
  b_bool : mg "bool" = none
  b_enumerate : mg "enumerate" = none
  b_int : mg "int" = none
  b_isinstance : mg "isinstance" = none
  b_len : mg "len" = none
  b_list : mg "list" = none
  b_range : mg "range" = none
  b_set : mg "set" = none
  b_sorted : mg "sorted" = none
  b_str : mg "str" = none
  b_super : mg "super" = none
  b_tuple : mg "tuple" = none
  g_FEWEST_HOUSES : ∃ t, mg "FEWEST_HOUSES" = some (.int 2 t)
  g_MOST_HOUSES : ∃ t, mg "MOST_HOUSES" = some (.int 8 t)
  ne : ([P900, P901] : List Addr).Nodup
  g_NewsError : mg "NewsError" = some (.ref NW)
  g_BadRow : mg "BadRow" = some (.ref (ctH A28 P900 P901 28).1)
  w_BadRow : XwD K (ctH A28 P900 P901 28).1 NW
  i_BadRow_BadHouse : IsKit K mg (ctH A28 P900 P901 28).1 "BadHouse" false
  i_BadRow_BadDay : IsKit K mg (ctH A28 P900 P901 28).1 "BadDay" false
  i_BadRow_BadWorth : IsKit K mg (ctH A28 P900 P901 28).1 "BadWorth" false
  i_BadRow_BadLife : IsKit K mg (ctH A28 P900 P901 28).1 "BadLife" false
  i_BadRow_NotOwn : IsKit K mg (ctH A28 P900 P901 28).1 "NotOwn" false
  i_BadRow_BadLetter : IsKit K mg (ctH A28 P900 P901 28).1 "BadLetter" false
  i_BadRow_BadTies : IsKit K mg (ctH A28 P900 P901 28).1 "BadTies" false
  i_BadRow_NoWay : IsKit K mg (ctH A28 P900 P901 28).1 "NoWay" false
  i_BadRow_BadRow : IsKit K mg (ctH A28 P900 P901 28).1 "BadRow" true
  i_BadRow_BadText : IsKit K mg (ctH A28 P900 P901 28).1 "BadText" false
  n_BadRow : PySem.W.findIn K (.ref (ctH A28 P900 P901 28).1) "number" = some none
  s_BadRow : SupD P w K mg (ctH A28 P900 P901 28).1 "number" "row " " is none"
  f__law_start : Tx K mg "_law_start" s__law_start ["_law_script"]
  f__law_drawn : Tx K mg "_law_drawn" s__law_drawn ["_law_state", "_law_many"]
  f__law_ties : Tx K mg "_law_ties" s__law_ties ["_law_state", "_law_many"]
  f__law_near : Tx K mg "_law_near" s__law_near ["_law_many", "_law_ties_here"]
  f__law_rows : Tx K mg "_law_rows" s__law_rows ["_law_state", "_law_near_here", "_law_has"]
  f__law_spoilt : Tx K mg "_law_spoilt" s__law_spoilt ["_law_state", "_law_rows_here", "_law_many"]
  f__law_same : Tx K mg "_law_same" s__law_same ["_law_found", "_law_due"]
  f_is_whole : Tx K mg "is_whole" s_is_whole ["value", "low", "high"]
  f_check_count : Tx K mg "check_count" s_check_count ["many"]
  f_is_two : Tx K mg "is_two" s_is_two ["value", "first", "second"]
  f_is_pair : Tx K mg "is_pair" s_is_pair ["value", "many"]
  f__neighbours : Tx K mg "_neighbours" s__neighbours ["many", "ties"]
  f_check_house : Tx K mg "check_house" s_check_house ["house", "many"]
  f_check_houses : Tx K mg "check_houses" s_check_houses ["houses", "many"]
  f__check_rows : Tx K mg "_check_rows" s__check_rows ["rows", "many"]
  f__all_in : TxC K mg "_all_in" s__all_in ["wants", "holders"] c901
  f_shows : Tx K mg "shows" s_shows ["many", "ties", "has", "wants", "rows"]
  f__law_does : Tx K mg "_law_does" s__law_does ["_law_near_here", "_law_has", "_law_wants", "_law_rows_here"]
  f__law_word : Tx K mg "_law_word" s__law_word ["_law_work"]
  f_law : TxC K mg "law" s_law ["_law_script"] c900
section
variable {P : Program} {w : World} {K : Fg} {mg : Str → Option Value} {base : Heap} {A28 P900 P901 : Addr} {NW c900 c901 : Addr}
def raisedP (c : Nat) : Prop := c = 28
theorem word_ex (T : Top K mg A28 P900 P901 w P NW c900 c901) : ∀ c, raisedP c → PySem.W.exmOne K (.ref ((ctH A28 P900 P901) c).1) (.ref NW) = some true := fun c hc => by
  rcases hc with rfl
  · exact T.w_BadRow.ex
theorem suite_ok (T : Top K mg A28 P900 P901 w P NW c900 c901) {k : Nat} {A : Around} {stack : List Env} {g : Addr} {cdv : Value} {s : Shared} {H : Hp} {a : Addr} {oe : Obj} {d : Option Addr} {pn : List (Addr × Obj)} {c : Nat} (hr : Room k (A.deeper (envOfC "_law_word" (defScope s__law_word) s.heap.objs.size g cdv))) (hc : raisedP c) (hz : Zc (.ref ((ctH A28 P900 P901) c).1) d oe) (hf : ∃ vs, oe.data = .fields vs) :
    PSsd (((cxOf C8.CX0 P w K mg base ["_law_work", "e", "_law_kinds", "_law_words", "_law_word_here"] "_law_word" (defScope s__law_word) g cdv A stack s H C8.E0).nox).suite a ((a, oe) :: pn)) (ctH A28 P900 P901) E0 (hBody s__law_word) (WW.b_suite c a d) := by
  rcases hc with rfl
  · exact (xss_cons (xs_set 2 sc__law_word.nd (xe_lst (xa_cons (xe_isX 1 T.w_BadRow.xi hz hf (by rfl) T.b_isinstance (by rfl) T.i_BadRow_BadHouse.choose_spec.1 T.i_BadRow_BadHouse.choose_spec.2) (xa_cons (xe_isX 1 T.w_BadRow.xi hz hf (by rfl) T.b_isinstance (by rfl) T.i_BadRow_BadDay.choose_spec.1 T.i_BadRow_BadDay.choose_spec.2) (xa_cons (xe_isX 1 T.w_BadRow.xi hz hf (by rfl) T.b_isinstance (by rfl) T.i_BadRow_BadWorth.choose_spec.1 T.i_BadRow_BadWorth.choose_spec.2) (xa_cons (xe_isX 1 T.w_BadRow.xi hz hf (by rfl) T.b_isinstance (by rfl) T.i_BadRow_BadLife.choose_spec.1 T.i_BadRow_BadLife.choose_spec.2) xa_nil))))))
    (xss_cons (xs_set 2 sc__law_word.nd (xe_op o_add (xe_var 2) (xe_lst (xa_cons (xe_isX 1 T.w_BadRow.xi hz hf (by rfl) T.b_isinstance (by rfl) T.i_BadRow_NotOwn.choose_spec.1 T.i_BadRow_NotOwn.choose_spec.2) (xa_cons (xe_isX 1 T.w_BadRow.xi hz hf (by rfl) T.b_isinstance (by rfl) T.i_BadRow_BadLetter.choose_spec.1 T.i_BadRow_BadLetter.choose_spec.2) (xa_cons (xe_isX 1 T.w_BadRow.xi hz hf (by rfl) T.b_isinstance (by rfl) T.i_BadRow_BadTies.choose_spec.1 T.i_BadRow_BadTies.choose_spec.2) (xa_cons (xe_isX 1 T.w_BadRow.xi hz hf (by rfl) T.b_isinstance (by rfl) T.i_BadRow_NoWay.choose_spec.1 T.i_BadRow_NoWay.choose_spec.2) xa_nil)))))))
    (xss_cons (xs_set 2 sc__law_word.nd (xe_op o_add (xe_var 2) (xe_lst (xa_cons (xe_isX 1 T.w_BadRow.xi hz hf (by rfl) T.b_isinstance (by rfl) T.i_BadRow_BadRow.choose_spec.1 T.i_BadRow_BadRow.choose_spec.2) (xa_cons (xe_isX 1 T.w_BadRow.xi hz hf (by rfl) T.b_isinstance (by rfl) T.i_BadRow_BadText.choose_spec.1 T.i_BadRow_BadText.choose_spec.2) xa_nil)))))
    (xss_cons (xs_set 3 sc__law_word.nd (xe_lst (xa_cons xe_str (xa_cons xe_str (xa_cons xe_str (xa_cons xe_str (xa_cons xe_str (xa_cons xe_str (xa_cons xe_str (xa_cons xe_str (xa_cons xe_str xa_nil)))))))))))
    (xss_cons (xs_expr (xe_append (xe_var 3) (xa_cons xe_str xa_nil)))
    (xss_cons (xs_if (xt_w (xw_or (xt_cmp (o_ne (hu64s hr)) (xe_cntB (xe_var 2) (xa_cons xe_bl xa_nil)) xe_int) (xw_or1 (xt_not (xt_val (xe_isXB 1 T.w_BadRow.xi hz hf (by rfl) T.b_isinstance (by rfl) T.b_ValueError (by rfl) T.w_BadRow.ve)))))) (xss_one (xs_ret (xe_tup (xa_cons xe_str (xa_cons xe_int xa_nil)))))
    xss_nil)
    (xss_cons (xs_set 4 sc__law_word.nd (xe_ix i_ix (xe_var 3) (xe_idxB (xe_var 2) (xa_cons xe_bl xa_nil))))
    (xss_one (xs_ret (xe_tup (xa_cons (xe_var 4) (xa_cons (xe_if (xt_cmp (o_eq (hu64s hr)) (xe_var 4) xe_str) (xe_xf 1 T.w_BadRow.xf T.n_BadRow hz hf) (xe_if (xt_cmp (o_eq (hu64s hr)) (xe_var 4) xe_str) xe_no xe_int)) xa_nil))))))))))))
theorem rs_ok {A28 P900 P901 : Addr} : ∀ (c : Nat) (a : Addr) (dd : Option Addr) (fs : List EV) (h1 : EH) (v : EV) (h2 : EH), rs_word c fs h1 = some (v, h2) → dd.isSome = !fs.isEmpty → raisedP c ∧ WW.b_suite c a dd [none, some (.exc a dd ((ctH A28 P900 P901) c).2 fs), none, none, none] h1 = .ok (.rt v) h2 := by
  intro c a dd fs h1 v h2 h hd
  unfold rs_word at h
  split at h
  · cases h
    refine ⟨rfl, ?_⟩
    obtain ⟨d0, rfl⟩ := Option.isSome_iff_exists.mp hd
    exact WW.suite28 a d0 _ h1
  · cases h
theorem d__law_start (T : Top K mg A28 P900 P901 w P NW c900 c901) (B0 : LamX.TabB base mg c900 P900) (B1 : LamX.TabB base mg c901 P901) : FnD P w K mg base (ctH A28 P900 P901) 1 "_law_start" LW.m__law_start := by
  refine fnd_mk T.f__law_start sc__law_start fun f cdv A outer s H E hr => ?_
  exact (xss_cons (xs_set 1 sc__law_start.nd xe_int)
    (xss_cons (xs_for PassesOwn.never rfl (xi_list (xe_var 0)) (xg_name 2 sc__law_start.nd)
    (xss_one (xs_set 1 sc__law_start.nd (xe_op o_mod (xe_op o_add (xe_op o_add (xe_op o_mul (xe_var 1) xe_int) (xe_var 2)) xe_int) xe_int))))
    (xss_one (xs_ret (xe_lst (xa_cons (xe_var 0) (xa_cons xe_int (xa_cons (xe_var 1) (xa_cons xe_int xa_nil)))))))))
theorem d__law_drawn (T : Top K mg A28 P900 P901 w P NW c900 c901) (B0 : LamX.TabB base mg c900 P900) (B1 : LamX.TabB base mg c901 P901) : FnD P w K mg base (ctH A28 P900 P901) 1 "_law_drawn" LW.m__law_drawn := by
  refine fnd_mk T.f__law_drawn sc__law_drawn fun f cdv A outer s H E hr => ?_
  exact (xss_cons (xs_if (xt_cmp o_gt (xe_ix i_ix (xe_var 0) xe_int) xe_int) (xss_cons (xs_set 2 sc__law_drawn.nd (xe_op o_mod (xe_ix i_ix (xe_var 0) xe_int) (xe_var 1)))
    (xss_cons (xs_asg (xe_op o_div (xe_ix i_ix (xe_var 0) xe_int) (xe_var 1)) (xg_sub (xe_var 0) xe_int set_lst))
    (xss_one (xs_ret (xe_var 2)))))
    xss_nil)
    (xss_cons (xs_asg (xe_op o_add (xe_ix i_ix (xe_var 0) xe_int) xe_int) (xg_sub (xe_var 0) xe_int set_lst))
    (xss_cons (xs_if (xt_cmp o_le (xe_ix i_ix (xe_var 0) xe_int) (xe_callB c_len (by rfl) T.b_len (by decide +kernel) (xa_cons (xe_ix i_ix (xe_var 0) xe_int) xa_nil))) (xss_cons (xs_set 3 sc__law_drawn.nd (xe_ix i_ix (xe_ix i_ix (xe_var 0) xe_int) (xe_op o_sub (xe_ix i_ix (xe_var 0) xe_int) xe_int)))
    (xss_cons (xs_asg (xe_if (xt_cmp o_ge (xe_var 3) (xe_op o_pow xe_int xe_int)) (xe_op o_div (xe_var 3) (xe_var 1)) xe_int) (xg_sub (xe_var 0) xe_int set_lst))
    (xss_one (xs_ret (xe_op o_mod (xe_var 3) (xe_var 1))))))
    xss_nil)
    (xss_cons (xs_asg (xe_op o_mod (xe_op o_add (xe_op o_mul (xe_ix i_ix (xe_var 0) xe_int) xe_int) xe_int) xe_int) (xg_sub (xe_var 0) xe_int set_lst))
    (xss_one (xs_ret (xe_op o_mod (xe_op o_div (xe_ix i_ix (xe_var 0) xe_int) xe_int) (xe_var 1))))))))
theorem d__law_ties (T : Top K mg A28 P900 P901 w P NW c900 c901) (B0 : LamX.TabB base mg c900 P900) (B1 : LamX.TabB base mg c901 P901) : FnD P w K mg base (ctH A28 P900 P901) 2 "_law_ties" LW.m__law_ties := by
  have c__law_drawn := (d__law_drawn (P := P) (w := w) (base := base) T B0 B1).mono (show 1 ≤ 1 by decide)
  refine fnd_mk T.f__law_ties sc__law_ties fun f cdv A outer s H E hr => ?_
  exact (xss_cons (xs_set 2 sc__law_ties.nd (xe_lst xa_nil))
    (xss_cons (xs_for PassesOwn.never rfl (xi_rng1 (by rfl) T.b_range (xa_cons (xe_call c__law_drawn hr (by rfl) (xa_cons (xe_var 0) (xa_cons (xe_ix i_ix (xe_lst (xa_cons xe_int (xa_cons (xe_op o_add (xe_var 1) xe_int) (xa_cons (xe_op o_mul xe_int (xe_var 1)) xa_nil)))) (xe_call c__law_drawn hr (by rfl) (xa_cons (xe_var 0) (xa_cons xe_int xa_nil)))) xa_nil))) xa_nil)) (xg_name 3 sc__law_ties.nd)
    (xss_cons (xs_set 4 sc__law_ties.nd (xe_call c__law_drawn hr (by rfl) (xa_cons (xe_var 0) (xa_cons (xe_var 1) xa_nil))))
    (xss_cons (xs_set 5 sc__law_ties.nd (xe_op o_mod (xe_op o_add (xe_op o_add (xe_var 4) xe_int) (xe_call c__law_drawn hr (by rfl) (xa_cons (xe_var 0) (xa_cons (xe_op o_sub (xe_var 1) xe_int) xa_nil)))) (xe_var 1)))
    (xss_one (xs_expr (xe_append (xe_var 2) (xa_cons (xe_tup (xa_cons (xe_var 4) (xa_cons (xe_var 5) xa_nil))) xa_nil)))))))
    (xss_cons (xs_if (xt_cmp (o_eq (hu64 hr)) (xe_call c__law_drawn hr (by rfl) (xa_cons (xe_var 0) (xa_cons xe_int xa_nil))) xe_int) (xss_one (xs_set 2 sc__law_ties.nd (xe_op o_add (xe_var 2) (xe_slice (xe_lc1 6 rfl sc__law_ties.nd (xi_rng1 (by rfl) T.b_range (xa_cons (xe_op o_sub (xe_var 1) xe_int) xa_nil)) (fun _ _ _ _ _ => (xe_tup (xa_cons (xe_var 6) (xa_cons (xe_op o_add (xe_var 6) xe_int) xa_nil)))) (hg := fun _ _ _ _ _ => pg_name sc__law_ties.nd rfl (by first | exact Or.inl rfl | exact Or.inr rfl))) (xo_some (xe_call c__law_drawn hr (by rfl) (xa_cons (xe_var 0) (xa_cons xe_int xa_nil)))) xo_none))))
    xss_nil)
    (xss_one (xs_ret (xe_var 2))))))
theorem d__law_near (T : Top K mg A28 P900 P901 w P NW c900 c901) (B0 : LamX.TabB base mg c900 P900) (B1 : LamX.TabB base mg c901 P901) : FnD P w K mg base (ctH A28 P900 P901) 1 "_law_near" LW.m__law_near := by
  refine fnd_mk T.f__law_near sc__law_near fun f cdv A outer s H E hr => ?_
  exact (xss_one (xs_ret (xe_lc1 2 rfl sc__law_near.nd (xi_rng1 (by rfl) T.b_range (xa_cons (xe_var 0) xa_nil)) (fun _ _ _ _ _ => (xe_lc1i 3 rfl sc__law_near.nd (xi_rng1 (by rfl) T.b_range (xa_cons (xe_var 0) xa_nil)) (fun _ _ _ _ _ => (xt_w (xw_or (xt_cmp (o_in (hu65 hr)) (xe_tup (xa_cons (xe_var 2) (xa_cons (xe_var 3) xa_nil))) (xe_var 1)) (xw_or1 (xt_cmp (o_in (hu65 hr)) (xe_tup (xa_cons (xe_var 3) (xa_cons (xe_var 2) xa_nil))) (xe_var 1)))))) (fun _ _ _ _ _ => (xe_var 3)) (hg := fun _ _ _ _ _ => pg_name sc__law_near.nd rfl (by first | exact Or.inl rfl | exact Or.inr rfl)))) (hg := fun _ _ _ _ _ => pg_name sc__law_near.nd rfl (by first | exact Or.inl rfl | exact Or.inr rfl)))))
theorem d__law_rows (T : Top K mg A28 P900 P901 w P NW c900 c901) (B0 : LamX.TabB base mg c900 P900) (B1 : LamX.TabB base mg c901 P901) : FnD P w K mg base (ctH A28 P900 P901) 2 "_law_rows" m__law_rows := by
  have c__law_drawn := (d__law_drawn (P := P) (w := w) (base := base) T B0 B1).mono (show 1 ≤ 1 by decide)
  refine fnd_mk T.f__law_rows sc__law_rows fun f cdv A outer s H E hr => ?_
  exact (xss_cons (xs_asg (xe_tup (xa_cons (xe_callTy c_list (by rfl) T.b_list (by decide +kernel) (xa_cons (xe_var 2) xa_nil)) (xa_cons (xe_lst xa_nil) xa_nil))) (xg_tup rfl (xgs_cons (xg_name 3 sc__law_rows.nd) (xgs_cons (xg_name 4 sc__law_rows.nd) xgs_nil))))
    (xss_cons (xs_for PassesOwn.never rfl (xi_rng1 (by rfl) T.b_range (xa_cons (xe_call c__law_drawn hr (by rfl) (xa_cons (xe_var 0) (xa_cons xe_int xa_nil))) xa_nil)) (xg_name 5 sc__law_rows.nd)
    (xss_cons (xs_set 6 sc__law_rows.nd (xe_lst xa_nil))
    (xss_cons (xs_for PassesOwn.never rfl (xi_list (xe_sortSet rfl (by rfl) T.b_sorted (by rfl) T.b_set (xe_var 3))) (xg_name 7 sc__law_rows.nd)
    (xss_one (xs_set 6 sc__law_rows.nd (xe_op o_add (xe_var 6) (xe_lc1i 8 rfl sc__law_rows.nd (xi_list (xe_ix i_ix (xe_var 1) (xe_var 7))) (fun _ _ _ _ _ => (xt_cmp (o_notIn (hu65 hr)) (xe_var 8) (xe_var 3))) (fun _ _ _ _ _ => (xe_tup (xa_cons (xe_var 7) (xa_cons (xe_var 8) xa_nil)))) (hg := fun _ _ _ _ _ => pg_name sc__law_rows.nd rfl (by first | exact Or.inl rfl | exact Or.inr rfl)))))))
    (xss_one (xs_if (xt_cmp (o_ne (hu64 hr)) (xe_var 6) (xe_lst xa_nil)) (xss_cons (xs_expr (xe_append (xe_var 4) (xa_cons (xe_ix i_ix (xe_var 6) (xe_call c__law_drawn hr (by rfl) (xa_cons (xe_var 0) (xa_cons (xe_callB c_len (by rfl) T.b_len (by decide +kernel) (xa_cons (xe_var 6) xa_nil)) xa_nil)))) xa_nil)))
    (xss_one (xs_expr (xe_append (xe_var 3) (xa_cons (xe_ix i_ix (xe_ix i_ix (xe_var 4) (xe_un o_neg xe_int)) xe_int) xa_nil)))))
    xss_nil)))))
    (xss_one (xs_ret (xe_var 4)))))
theorem d__law_spoilt (T : Top K mg A28 P900 P901 w P NW c900 c901) (B0 : LamX.TabB base mg c900 P900) (B1 : LamX.TabB base mg c901 P901) : FnD P w K mg base (ctH A28 P900 P901) 2 "_law_spoilt" m__law_spoilt := by
  have c__law_drawn := (d__law_drawn (P := P) (w := w) (base := base) T B0 B1).mono (show 1 ≤ 1 by decide)
  refine fnd_mk T.f__law_spoilt sc__law_spoilt fun f cdv A outer s H E hr => ?_
  exact (xss_cons (xs_par 3 4 rfl sc__law_spoilt.nd (xa_cons (xe_call c__law_drawn hr (by rfl) (xa_cons (xe_var 0) (xa_cons (xe_op o_add (xe_callB c_len (by rfl) T.b_len (by decide +kernel) (xa_cons (xe_var 1) xa_nil)) xe_int) xa_nil))) (xa_cons (xe_call c__law_drawn hr (by rfl) (xa_cons (xe_var 0) (xa_cons xe_int xa_nil))) xa_nil)) rfl)
    (xss_cons (xs_set 5 sc__law_spoilt.nd (xe_tup (xa_cons (xe_call c__law_drawn hr (by rfl) (xa_cons (xe_var 0) (xa_cons (xe_var 2) xa_nil))) (xa_cons (xe_call c__law_drawn hr (by rfl) (xa_cons (xe_var 0) (xa_cons (xe_var 2) xa_nil))) xa_nil))))
    (xss_cons (xs_if (xt_w (xw_or (xt_cmp (o_eq (hu64 hr)) (xe_var 4) xe_int) (xw_or1 (xt_cmp (o_eq (hu64 hr)) (xe_var 3) (xe_callB c_len (by rfl) T.b_len (by decide +kernel) (xa_cons (xe_var 1) xa_nil)))))) (xss_one (xs_ret (xe_op o_add (xe_op o_add (xe_slice (xe_var 1) xo_none (xo_some (xe_var 3))) (xe_lst (xa_cons (xe_var 5) xa_nil))) (xe_slice (xe_var 1) (xo_some (xe_var 3)) xo_none))))
    xss_nil)
    (xss_cons (xs_if (xt_cmp (o_eq (hu64 hr)) (xe_var 4) xe_int) (xss_one (xs_ret (xe_op o_add (xe_slice (xe_var 1) xo_none (xo_some (xe_var 3))) (xe_slice (xe_var 1) (xo_some (xe_op o_add (xe_var 3) xe_int)) xo_none))))
    xss_nil)
    (xss_cons (xs_if (xt_cmp (o_eq (hu64 hr)) (xe_var 4) xe_int) (xss_one (xs_ret (xe_op o_add (xe_slice (xe_var 1) xo_none (xo_some (xe_op o_add (xe_var 3) xe_int))) (xe_slice (xe_var 1) (xo_some (xe_var 3)) xo_none))))
    xss_nil)
    (xss_cons (xs_if (xt_cmp (o_eq (hu64 hr)) (xe_var 4) xe_int) (xss_one (xs_ret (xe_op o_add (xe_op o_add (xe_slice (xe_var 1) xo_none (xo_some (xe_var 3))) (xe_revL (xe_slice (xe_var 1) (xo_some (xe_var 3)) (xo_some (xe_op o_add (xe_var 3) xe_int))))) (xe_slice (xe_var 1) (xo_some (xe_op o_add (xe_var 3) xe_int)) xo_none))))
    xss_nil)
    (xss_cons (xs_asg (xe_ix i_ix (xe_var 1) (xe_var 3)) (xg_tup rfl (xgs_cons (xg_name 6 sc__law_spoilt.nd) (xgs_cons (xg_name 7 sc__law_spoilt.nd) xgs_nil))))
    (xss_one (xs_ret (xe_op o_add (xe_op o_add (xe_slice (xe_var 1) xo_none (xo_some (xe_var 3))) (xe_lst (xa_cons (xe_ix i_ix (xe_lst (xa_cons (xe_tup (xa_cons (xe_var 7) (xa_cons (xe_var 6) xa_nil))) (xa_cons (xe_tup (xa_cons (xe_var 6) (xa_cons (xe_ix i_ix (xe_var 5) xe_int) xa_nil))) xa_nil))) (xe_op o_sub (xe_var 4) xe_int)) xa_nil))) (xe_slice (xe_var 1) (xo_some (xe_op o_add (xe_var 3) xe_int)) xo_none)))))))))))
theorem d__law_same_n (T : Top K mg A28 P900 P901 w P NW c900 c901) (B0 : LamX.TabB base mg c900 P900) (B1 : LamX.TabB base mg c901 P901) : ∀ n, FnD P w K mg base (ctH A28 P900 P901) (0 + n) "_law_same" (LW.m__law_same n)
  | 0 => (fnd_zero T.f__law_same).mono (Nat.zero_le _)
  | n + 1 => by
    have hrec := d__law_same_n T B0 B1 n
    refine fnd_mk T.f__law_same sc__law_same fun f cdv A outer s H E hr => ?_
    exact (xss_cons (xs_if (xt_val (xe_isi2 .tuple_ .list_ (by rfl) T.b_isinstance (by rfl) T.b_tuple (by decide +kernel) (by rfl) T.b_list (by decide +kernel) (xe_var 1))) (xss_cons (xs_if (xt_w (xw_or (xt_not (xt_val (xe_isi2 .tuple_ .list_ (by rfl) T.b_isinstance (by rfl) T.b_tuple (by decide +kernel) (by rfl) T.b_list (by decide +kernel) (xe_var 0)))) (xw_or1 (xt_cmp (o_ne (hu64 hr)) (xe_isi .list_ (by rfl) T.b_isinstance (by rfl) T.b_list (by decide +kernel) (xe_var 0)) (xe_isi .list_ (by rfl) T.b_isinstance (by rfl) T.b_list (by decide +kernel) (xe_var 1)))))) (xss_one (xs_ret xe_bl))
    xss_nil)
    (xss_cons (xs_if (xt_cmp (o_ne (hu64 hr)) (xe_callB c_len (by rfl) T.b_len (by decide +kernel) (xa_cons (xe_var 0) xa_nil)) (xe_callB c_len (by rfl) T.b_len (by decide +kernel) (xa_cons (xe_var 1) xa_nil))) (xss_one (xs_ret xe_bl))
    xss_nil)
    (xss_one (xs_ret (xe_cmp (o_eq (hu64 hr)) (xe_lc1i 2 rfl sc__law_same.nd (xi_rng1 (by rfl) T.b_range (xa_cons (xe_callB c_len (by rfl) T.b_len (by decide +kernel) (xa_cons (xe_var 1) xa_nil)) xa_nil)) (fun _ _ _ _ _ => (xt_not (xt_val (xe_call hrec hr (by rfl) (xa_cons (xe_ix i_ix (xe_var 0) (xe_var 2)) (xa_cons (xe_ix i_ix (xe_var 1) (xe_var 2)) xa_nil)))))) (fun _ _ _ _ _ => (xe_var 2)) (hg := fun _ _ _ _ _ => pg_name sc__law_same.nd rfl (by first | exact Or.inl rfl | exact Or.inr rfl))) (xe_lst xa_nil))))))
    xss_nil)
    (xss_cons (xs_if (xt_cmp o_isN (xe_var 1) xe_non) (xss_one (xs_ret (xe_cmp o_isN (xe_var 0) xe_non)))
    xss_nil)
    (xss_cons (xs_if (xt_val (xe_isi .str_ (by rfl) T.b_isinstance (by rfl) T.b_str (by decide +kernel) (xe_var 1))) (xss_one (xs_ret (xe_and (xe_isi .str_ (by rfl) T.b_isinstance (by rfl) T.b_str (by decide +kernel) (xe_var 0)) (xe_one (xe_cmp (o_eq (hu64 hr)) (xe_var 0) (xe_var 1))))))
    xss_nil)
    (xss_cons (xs_if (xt_w (xw_or (xt_val (xe_isi .bool_ (by rfl) T.b_isinstance (by rfl) T.b_bool (by decide +kernel) (xe_var 1))) (xw_or1 (xt_val (xe_isi .bool_ (by rfl) T.b_isinstance (by rfl) T.b_bool (by decide +kernel) (xe_var 0)))))) (xss_one (xs_ret (xe_and (xe_isi .bool_ (by rfl) T.b_isinstance (by rfl) T.b_bool (by decide +kernel) (xe_var 1)) (xe_and (xe_isi .bool_ (by rfl) T.b_isinstance (by rfl) T.b_bool (by decide +kernel) (xe_var 0)) (xe_one (xe_cmp (o_eq (hu64 hr)) (xe_var 0) (xe_var 1)))))))
    xss_nil)
    (xss_one (xs_ret (xe_and (xe_isi .int_ (by rfl) T.b_isinstance (by rfl) T.b_int (by decide +kernel) (xe_var 0)) (xe_one (xe_cmp (o_eq (hu64 hr)) (xe_var 0) (xe_var 1))))))))))
theorem d__law_same (T : Top K mg A28 P900 P901 w P NW c900 c901) (B0 : LamX.TabB base mg c900 P900) (B1 : LamX.TabB base mg c901 P901) : FnD P w K mg base (ctH A28 P900 P901) 6 "_law_same" (LW.m__law_same 6) := d__law_same_n T B0 B1 6
theorem d_is_whole (T : Top K mg A28 P900 P901 w P NW c900 c901) (B0 : LamX.TabB base mg c900 P900) (B1 : LamX.TabB base mg c901 P901) : FnD P w K mg base (ctH A28 P900 P901) 1 "is_whole" LW.m_is_whole := by
  refine fnd_mk T.f_is_whole sc_is_whole fun f cdv A outer s H E hr => ?_
  exact (xss_cons (xs_if (xt_w (xw_or (xt_val (xe_isi .bool_ (by rfl) T.b_isinstance (by rfl) T.b_bool (by decide +kernel) (xe_var 0))) (xw_or1 (xt_not (xt_val (xe_isi .int_ (by rfl) T.b_isinstance (by rfl) T.b_int (by decide +kernel) (xe_var 0))))))) (xss_one (xs_ret xe_bl))
    xss_nil)
    (xss_one (xs_ret (xe_chain o_le o_le (xe_var 1) (xe_var 0) (xe_var 2)))))
theorem d_check_count (T : Top K mg A28 P900 P901 w P NW c900 c901) (B0 : LamX.TabB base mg c900 P900) (B1 : LamX.TabB base mg c901 P901) : FnD P w K mg base (ctH A28 P900 P901) 2 "check_count" LW.m_check_count := by
  have c_is_whole := (d_is_whole (P := P) (w := w) (base := base) T B0 B1).mono (show 1 ≤ 1 by decide)
  refine fnd_mk T.f_check_count sc_check_count fun f cdv A outer s H E hr => ?_
  exact (xss_one (xs_if (xt_not (xt_val (xe_call c_is_whole hr (by rfl) (xa_cons (xe_var 0) (xa_cons (xe_globI (by rfl) T.g_FEWEST_HOUSES) (xa_cons (xe_globI (by rfl) T.g_MOST_HOUSES) xa_nil)))))) (xss_one xs_never)
    xss_nil))
theorem d_is_two (T : Top K mg A28 P900 P901 w P NW c900 c901) (B0 : LamX.TabB base mg c900 P900) (B1 : LamX.TabB base mg c901 P901) : FnD P w K mg base (ctH A28 P900 P901) 2 "is_two" LW.m_is_two := by
  have c_is_whole := (d_is_whole (P := P) (w := w) (base := base) T B0 B1).mono (show 1 ≤ 1 by decide)
  refine fnd_mk T.f_is_two sc_is_two fun f cdv A outer s H E hr => ?_
  exact (xss_cons (xs_if (xt_w (xw_or (xt_not (xt_val (xe_isi .tuple_ (by rfl) T.b_isinstance (by rfl) T.b_tuple (by decide +kernel) (xe_var 0)))) (xw_or1 (xt_cmp (o_ne (hu64 hr)) (xe_callB c_len (by rfl) T.b_len (by decide +kernel) (xa_cons (xe_var 0) xa_nil)) xe_int)))) (xss_one (xs_ret xe_bl))
    xss_nil)
    (xss_one (xs_ret (xe_and (xe_call c_is_whole hr (by rfl) (xa_cons (xe_ix i_ix (xe_var 0) xe_int) (xa_cons xe_int (xa_cons (xe_var 1) xa_nil)))) (xe_one (xe_call c_is_whole hr (by rfl) (xa_cons (xe_ix i_ix (xe_var 0) xe_int) (xa_cons xe_int (xa_cons (xe_var 2) xa_nil)))))))))
theorem d_is_pair (T : Top K mg A28 P900 P901 w P NW c900 c901) (B0 : LamX.TabB base mg c900 P900) (B1 : LamX.TabB base mg c901 P901) : FnD P w K mg base (ctH A28 P900 P901) 3 "is_pair" LW.m_is_pair := by
  have c_is_two := (d_is_two (P := P) (w := w) (base := base) T B0 B1).mono (show 2 ≤ 2 by decide)
  refine fnd_mk T.f_is_pair sc_is_pair fun f cdv A outer s H E hr => ?_
  exact (xss_one (xs_ret (xe_call c_is_two hr (by rfl) (xa_cons (xe_var 0) (xa_cons (xe_op o_sub (xe_var 1) xe_int) (xa_cons (xe_op o_sub (xe_var 1) xe_int) xa_nil))))))
theorem d__neighbours (T : Top K mg A28 P900 P901 w P NW c900 c901) (B0 : LamX.TabB base mg c900 P900) (B1 : LamX.TabB base mg c901 P901) : FnD P w K mg base (ctH A28 P900 P901) 4 "_neighbours" LW.m__neighbours := by
  have c_check_count := (d_check_count (P := P) (w := w) (base := base) T B0 B1).mono (show 2 ≤ 3 by decide)
  have c_is_pair := (d_is_pair (P := P) (w := w) (base := base) T B0 B1).mono (show 3 ≤ 3 by decide)
  refine fnd_mk T.f__neighbours sc__neighbours fun f cdv A outer s H E hr => ?_
  exact (xss_cons (xs_expr (xe_call c_check_count hr (by rfl) (xa_cons (xe_var 0) xa_nil)))
    (xss_cons (xs_for PassesOwn.never rfl (xi_list (xe_var 1)) (xg_name 2 sc__neighbours.nd)
    (xss_one (xs_if (xt_w (xw_or (xt_not (xt_val (xe_call c_is_pair hr (by rfl) (xa_cons (xe_var 2) (xa_cons (xe_var 0) xa_nil))))) (xw_or1 (xt_cmp (o_eq (hu64 hr)) (xe_ix i_ix (xe_var 2) xe_int) (xe_ix i_ix (xe_var 2) xe_int))))) (xss_one xs_never)
    xss_nil)))
    (xss_cons (xs_setLc1 3 6 rfl sc__neighbours.nd (xi_rng1 (by rfl) T.b_range (xa_cons (xe_var 0) xa_nil)) (fun _ _ _ _ _ => (xe_lst xa_nil)) (sw_true rfl rfl rfl (by decide +kernel)) (hg := fun _ _ _ _ _ => pg_name sc__neighbours.nd rfl (by first | exact Or.inl rfl | exact Or.inr rfl)))
    (xss_cons (xs_for PassesOwn.never rfl (xi_list (xe_var 1)) (xg_tup rfl (xgs_cons (xg_name 4 sc__neighbours.nd) (xgs_cons (xg_name 5 sc__neighbours.nd) xgs_nil)))
    (xss_cons (xs_expr (xe_append (xe_ix i_ix (xe_var 3) (xe_var 4)) (xa_cons (xe_var 5) xa_nil)))
    (xss_one (xs_expr (xe_append (xe_ix i_ix (xe_var 3) (xe_var 5)) (xa_cons (xe_var 4) xa_nil))))))
    (xss_one (xs_ret (xe_var 3)))))))
theorem d_check_house (T : Top K mg A28 P900 P901 w P NW c900 c901) (B0 : LamX.TabB base mg c900 P900) (B1 : LamX.TabB base mg c901 P901) : FnD P w K mg base (ctH A28 P900 P901) 2 "check_house" LW.m_check_house := by
  have c_is_whole := (d_is_whole (P := P) (w := w) (base := base) T B0 B1).mono (show 1 ≤ 1 by decide)
  refine fnd_mk T.f_check_house sc_check_house fun f cdv A outer s H E hr => ?_
  exact (xss_one (xs_if (xt_not (xt_val (xe_call c_is_whole hr (by rfl) (xa_cons (xe_var 0) (xa_cons xe_int (xa_cons (xe_op o_sub (xe_var 1) xe_int) xa_nil)))))) (xss_one xs_never)
    xss_nil))
theorem d_check_houses (T : Top K mg A28 P900 P901 w P NW c900 c901) (B0 : LamX.TabB base mg c900 P900) (B1 : LamX.TabB base mg c901 P901) : FnD P w K mg base (ctH A28 P900 P901) 3 "check_houses" TW.m_check_houses := by
  have c_check_house := (d_check_house (P := P) (w := w) (base := base) T B0 B1).mono (show 2 ≤ 2 by decide)
  refine fnd_mk T.f_check_houses sc_check_houses fun f cdv A outer s H E hr => ?_
  exact (xss_one (xs_for PassesOwn.never rfl (xi_list (xe_var 0)) (xg_name 2 sc_check_houses.nd)
    (xss_one (xs_expr (xe_call c_check_house hr (by rfl) (xa_cons (xe_var 2) (xa_cons (xe_var 1) xa_nil)))))))
theorem d__check_rows (T : Top K mg A28 P900 P901 w P NW c900 c901) (B0 : LamX.TabB base mg c900 P900) (B1 : LamX.TabB base mg c901 P901) : FnDX P w K mg base (ctH A28 P900 P901) 4 "_check_rows" TW.m__check_rows := by
  have c_is_pair := (d_is_pair (P := P) (w := w) (base := base) T B0 B1).mono (show 3 ≤ 3 by decide)
  refine fndx_mk T.f__check_rows sc__check_rows fun f cdv A outer s H E hr tk => ?_
  exact (xss_one (xs_for (passes_of rfl) rfl (xi_enum (by rfl) T.b_enumerate (xa_cons (xe_var 0) xa_nil)) (xg_tup rfl (xgs_cons (xg_name 2 sc__check_rows.nd) (xgs_cons (xg_name 3 sc__check_rows.nd) xgs_nil)))
    (xss_one (xs_if (xt_not (xt_val (xe_call c_is_pair hr (by rfl) (xa_cons (xe_var 3) (xa_cons (xe_var 1) xa_nil))))) (xss_one (xs_raiseN 28 T.s_BadRow rfl T.g_BadRow T.b_super hr rfl tk (by rfl) (xe_var 2)))
    xss_nil))))
theorem d__all_in (T : Top K mg A28 P900 P901 w P NW c900 c901) (B0 : LamX.TabB base mg c900 P900) (B1 : LamX.TabB base mg c901 P901) : FnD P w K mg base (ctH A28 P900 P901) 1 "_all_in" TW.m__all_in := by
  refine fndC_mk T.f__all_in sc__all_in fun f A outer s H E hr => ?_
  exact (xss_one (xs_ret (xe_allInQ (q := ("_all_in" : Str) ++ ".<locals>.") (iD := 1) hr (by rfl) T.b_all B1 rfl rfl mem_1 (uni_1 T.ne) (allSc_by (by kernel_rfl)) rfl (xe_var 0) (fun _ => rfl))))
theorem d_shows (T : Top K mg A28 P900 P901 w P NW c900 c901) (B0 : LamX.TabB base mg c900 P900) (B1 : LamX.TabB base mg c901 P901) : FnDX P w K mg base (ctH A28 P900 P901) 5 "shows" TW.m_shows := by
  have c__neighbours := (d__neighbours (P := P) (w := w) (base := base) T B0 B1).mono (show 4 ≤ 4 by decide)
  have c_check_houses := (d_check_houses (P := P) (w := w) (base := base) T B0 B1).mono (show 3 ≤ 4 by decide)
  have c__check_rows := (d__check_rows (P := P) (w := w) (base := base) T B0 B1).mono (show 4 ≤ 4 by decide)
  have c__all_in := (d__all_in (P := P) (w := w) (base := base) T B0 B1).mono (show 1 ≤ 4 by decide)
  refine fndx_mk T.f_shows sc_shows fun f cdv A outer s H E hr tk => ?_
  exact (xss_cons (xs_set 5 sc_shows.nd (xe_call c__neighbours hr (by rfl) (xa_cons (xe_var 0) (xa_cons (xe_var 1) xa_nil))))
    (xss_cons (xs_expr (xe_call c_check_houses hr (by rfl) (xa_cons (xe_var 2) (xa_cons (xe_var 0) xa_nil))))
    (xss_cons (xs_expr (xe_call c_check_houses hr (by rfl) (xa_cons (xe_var 3) (xa_cons (xe_var 0) xa_nil))))
    (xss_cons (xs_expr (xe_callX c__check_rows hr tk (by rfl) (xa_cons (xe_var 4) (xa_cons (xe_var 0) xa_nil))))
    (xss_cons (xs_setDc 6 false [("house", 9)] (hu1 hr) rfl sc_shows.nd (xi_list (xe_var 2)) (fun _ _ _ _ _ => (xe_var 9)) (fun _ _ _ _ _ => xe_bl) (fun _ _ _ _ _ => (pg_name sc_shows.nd rfl (by first | exact Or.inl rfl | exact Or.inr rfl))) snd_gname (only_name (by decide)) (swD_true rfl rfl rfl (by decide +kernel)))
    (xss_cons (xs_for (passes_of rfl) rfl (xi_list (xe_var 4)) (xg_tup rfl (xgs_cons (xg_name 7 sc_shows.nd) (xgs_cons (xg_name 8 sc_shows.nd) xgs_nil)))
    (xss_cons (xs_if (xt_w (xw_or (xt_cmp (o_dNotIn (hu1 hr)) (xe_var 7) (xe_var 6)) (xw_or (xt_cmp (o_dIn (hu1 hr)) (xe_var 8) (xe_var 6)) (xw_or1 (xt_cmp (o_notIn (hu65 hr)) (xe_var 8) (xe_ix i_ix (xe_var 5) (xe_var 7))))))) (xss_one (xs_ret xe_bl))
    xss_nil)
    (xss_one (xs_asg xe_bl (xg_sub (xe_var 6) (xe_var 8) (set_dic (hu1 hr)))))))
    (xss_one (xs_ret (xe_call c__all_in hr (by rfl) (xa_cons (xe_var 3) (xa_cons (xe_var 6) xa_nil)))))))))))
theorem d__law_does (T : Top K mg A28 P900 P901 w P NW c900 c901) (B0 : LamX.TabB base mg c900 P900) (B1 : LamX.TabB base mg c901 P901) : FnD P w K mg base (ctH A28 P900 P901) 1 "_law_does" TW.m__law_does := by
  refine fnd_mk T.f__law_does sc__law_does fun f cdv A outer s H E hr => ?_
  exact (xss_cons (xs_set 4 sc__law_does.nd (xe_callTy c_list (by rfl) T.b_list (by decide +kernel) (xa_cons (xe_var 1) xa_nil)))
    (xss_cons (xs_for PassesOwn.never rfl (xi_list (xe_var 3)) (xg_tup rfl (xgs_cons (xg_name 5 sc__law_does.nd) (xgs_cons (xg_name 6 sc__law_does.nd) xgs_nil)))
    (xss_cons (xs_if (xt_w (xw_or (xt_cmp (o_notIn (hu65 hr)) (xe_var 5) (xe_var 4)) (xw_or (xt_cmp (o_in (hu65 hr)) (xe_var 6) (xe_var 4)) (xw_or1 (xt_cmp (o_notIn (hu65 hr)) (xe_var 6) (xe_ix i_ix (xe_var 0) (xe_var 5))))))) (xss_one (xs_ret xe_bl))
    xss_nil)
    (xss_one (xs_expr (xe_append (xe_var 4) (xa_cons (xe_var 6) xa_nil))))))
    (xss_one (xs_ret (xe_cmp (o_eq (hu64 hr)) (xe_lc1i 7 rfl sc__law_does.nd (xi_list (xe_var 2)) (fun _ _ _ _ _ => (xt_cmp (o_notIn (hu65 hr)) (xe_var 7) (xe_var 4))) (fun _ _ _ _ _ => (xe_var 7)) (hg := fun _ _ _ _ _ => pg_name sc__law_does.nd rfl (by first | exact Or.inl rfl | exact Or.inr rfl))) (xe_lst xa_nil))))))
theorem d_law_at {f : Addr} {oc : Value} {od an : Option Addr} {osl : Array (Option Value)} {kV doc pm cc : Value} (l : K.lookup f = some ⟨oc, od, .func (PySem.W.fnOf "law" "law" (defArgs s_law) (defBody s_law) (defScope s_law) .none kV doc pm an (.ref c900) cc), osl⟩) (hcd : PySem.W.codeIn K (.ref c900) "law" = true) (T : Top K mg A28 P900 P901 w P NW c900 c901) (B0 : LamX.TabB base mg c900 P900) (B1 : LamX.TabB base mg c901 P901) :
    FnOk P w K mg base CX0 8 f (PySem.W.fnOf "law" "law" (defArgs s_law) (defBody s_law) (defScope s_law) .none kV doc pm an (.ref c900) cc) ["_law_script"] (spD0 ⟨K, (ctH A28 P900 P901)⟩ m_law) := by
  have c__law_start := (d__law_start (P := P) (w := w) (base := base) T B0 B1).mono (show 1 ≤ 7 by decide)
  have c__law_ties := (d__law_ties (P := P) (w := w) (base := base) T B0 B1).mono (show 2 ≤ 7 by decide)
  have c__law_near := (d__law_near (P := P) (w := w) (base := base) T B0 B1).mono (show 1 ≤ 7 by decide)
  have c__law_rows := (d__law_rows (P := P) (w := w) (base := base) T B0 B1).mono (show 2 ≤ 7 by decide)
  have c__law_drawn := (d__law_drawn (P := P) (w := w) (base := base) T B0 B1).mono (show 1 ≤ 7 by decide)
  have c__law_spoilt := (d__law_spoilt (P := P) (w := w) (base := base) T B0 B1).mono (show 2 ≤ 7 by decide)
  have c__law_same := (d__law_same (P := P) (w := w) (base := base) T B0 B1).mono (show 6 ≤ 7 by decide)
  have c_shows := (d_shows (P := P) (w := w) (base := base) T B0 B1).mono (show 5 ≤ 7 by decide)
  have c__law_does := (d__law_does (P := P) (w := w) (base := base) T B0 B1).mono (show 1 ≤ 7 by decide)
  have l_shows := (d_shows (P := P) (w := w) (base := base) T B0 B1).mono (show 5 ≤ 5 by decide)
  refine fn_dC l hcd sc_law fun A outer s H E hr => ?_
  exact (xss_cons (xs_set 1 sc_law.nd (xe_call c__law_start hr (by rfl) (xa_cons (xe_var 0) xa_nil)))
    (xss_cons (xs_for PassesOwn.never rfl (xi_rng1 (by rfl) T.b_range (xa_cons xe_int xa_nil)) (xg_name 2 sc_law.nd)
    (xss_cons (xs_set 13 sc_law.nd (xe_op o_add xe_int (xe_call c__law_drawn hr (by rfl) (xa_cons (xe_var 1) (xa_cons xe_int xa_nil)))))
    (xss_cons (xs_set 14 sc_law.nd (xe_call c__law_ties hr (by rfl) (xa_cons (xe_var 1) (xa_cons (xe_var 13) xa_nil))))
    (xss_cons (xs_set 3 sc_law.nd (xe_call c__law_near hr (by rfl) (xa_cons (xe_var 13) (xa_cons (xe_var 14) xa_nil))))
    (xss_cons (xs_set 12 sc_law.nd (xe_lc1 16 rfl sc_law.nd (xi_rng1 (by rfl) T.b_range (xa_cons (xe_op o_add xe_int (xe_call c__law_drawn hr (by rfl) (xa_cons (xe_var 1) (xa_cons xe_int xa_nil)))) xa_nil)) (fun _ _ _ _ _ => (xe_call c__law_drawn hr (by rfl) (xa_cons (xe_var 1) (xa_cons (xe_var 13) xa_nil)))) (hg := fun _ _ _ _ _ => pg_name sc_law.nd rfl (by first | exact Or.inl rfl | exact Or.inr rfl))))
    (xss_cons (xs_set 4 sc_law.nd (xe_call c__law_rows hr (by rfl) (xa_cons (xe_var 1) (xa_cons (xe_var 3) (xa_cons (xe_var 12) xa_nil)))))
    (xss_cons (xs_set 5 sc_law.nd (xe_op o_add (xe_lc1 17 rfl sc_law.nd (xi_list (xe_var 4)) (fun _ _ _ _ _ => (xe_ix i_ix (xe_var 17) xe_int)) (hg := fun _ _ _ _ _ => pg_name sc_law.nd rfl (by first | exact Or.inl rfl | exact Or.inr rfl))) (xe_var 12)))
    (xss_cons (xs_set 15 sc_law.nd (xe_lc1 16 rfl sc_law.nd (xi_rng1 (by rfl) T.b_range (xa_cons (xe_call c__law_drawn hr (by rfl) (xa_cons (xe_var 1) (xa_cons xe_int xa_nil))) xa_nil)) (fun _ _ _ _ _ => (xe_ix i_ix (xe_var 5) (xe_call c__law_drawn hr (by rfl) (xa_cons (xe_var 1) (xa_cons (xe_callB c_len (by rfl) T.b_len (by decide +kernel) (xa_cons (xe_var 5) xa_nil)) xa_nil))))) (hg := fun _ _ _ _ _ => pg_name sc_law.nd rfl (by first | exact Or.inl rfl | exact Or.inr rfl))))
    (xss_cons (xs_if (xt_cmp (o_eq (hu64 hr)) (xe_call c__law_drawn hr (by rfl) (xa_cons (xe_var 1) (xa_cons xe_int xa_nil))) xe_int) (xss_one (xs_expr (xe_append (xe_var 15) (xa_cons (xe_call c__law_drawn hr (by rfl) (xa_cons (xe_var 1) (xa_cons (xe_var 13) xa_nil))) xa_nil))))
    xss_nil)
    (xss_cons (xs_for PassesOwn.never rfl (xi_rng1 (by rfl) T.b_range (xa_cons (xe_call c__law_drawn hr (by rfl) (xa_cons (xe_var 1) (xa_cons xe_int xa_nil))) xa_nil)) (xg_name 6 sc_law.nd)
    (xss_one (xs_set 4 sc_law.nd (xe_call c__law_spoilt hr (by rfl) (xa_cons (xe_var 1) (xa_cons (xe_var 4) (xa_cons (xe_var 13) xa_nil)))))))
    (xss_cons (xs_set 7 sc_law.nd (xe_lst (xa_cons (xe_callTy c_list (by rfl) T.b_list (by decide +kernel) (xa_cons (xe_var 14) xa_nil)) (xa_cons (xe_callTy c_list (by rfl) T.b_list (by decide +kernel) (xa_cons (xe_var 12) xa_nil)) (xa_cons (xe_callTy c_list (by rfl) T.b_list (by decide +kernel) (xa_cons (xe_var 15) xa_nil)) (xa_cons (xe_callTy c_list (by rfl) T.b_list (by decide +kernel) (xa_cons (xe_var 4) xa_nil)) xa_nil))))))
    (xss_cons (xs_if (xt_not (xt_val (xe_call c__law_same hr (by rfl) (xa_cons (xe_callX c_shows hr LamX.takes0 (by rfl) (xa_cons (xe_var 13) (xa_cons (xe_ix i_ix (xe_var 7) xe_int) (xa_cons (xe_ix i_ix (xe_var 7) xe_int) (xa_cons (xe_ix i_ix (xe_var 7) xe_int) (xa_cons (xe_ix i_ix (xe_var 7) xe_int) xa_nil)))))) (xa_cons (xe_call c__law_does hr (by rfl) (xa_cons (xe_var 3) (xa_cons (xe_var 12) (xa_cons (xe_var 15) (xa_cons (xe_var 4) xa_nil))))) xa_nil))))) (xss_one (xs_ret xe_bl))
    xss_nil)
    (xss_cons (xs_if (xt_cmp (o_ne (hu64 hr)) (xe_var 7) (xe_lst (xa_cons (xe_var 14) (xa_cons (xe_var 12) (xa_cons (xe_var 15) (xa_cons (xe_var 4) xa_nil)))))) (xss_one (xs_ret xe_bl))
    xss_nil)
    (xss_cons (xs_set 8 sc_law.nd (xe_call c__law_drawn hr (by rfl) (xa_cons (xe_var 1) (xa_cons (xe_op o_add (xe_callB c_len (by rfl) T.b_len (by decide +kernel) (xa_cons (xe_var 4) xa_nil)) xe_int) xa_nil))))
    (xss_cons (xs_set 9 sc_law.nd (xe_op o_add xe_int (xe_call c__law_drawn hr (by rfl) (xa_cons (xe_var 1) (xa_cons (xe_op o_pow xe_int xe_int) xa_nil)))))
    (xss_cons (xs_set 10 sc_law.nd (xe_ix i_ix (xe_lst (xa_cons (xe_tup (xa_cons xe_int xa_nil)) (xa_cons (xe_tup xa_nil) (xa_cons (xe_tup (xa_cons xe_int (xa_cons xe_int (xa_cons xe_int xa_nil)))) (xa_cons (xe_tup (xa_cons (xe_var 13) (xa_cons xe_int xa_nil))) (xa_cons (xe_tup (xa_cons xe_int (xa_cons (xe_op o_add (xe_op o_sub (xe_var 13) xe_int) (xe_var 9)) xa_nil))) (xa_cons (xe_tup (xa_cons (xe_op o_sub xe_int (xe_var 9)) (xa_cons xe_int xa_nil))) (xa_cons (xe_tup (xa_cons (xe_tup (xa_cons xe_int xa_nil)) (xa_cons xe_int xa_nil))) xa_nil)))))))) (xe_call c__law_drawn hr (by rfl) (xa_cons (xe_var 1) (xa_cons xe_int xa_nil)))))
    (xss_cons (xs_set 11 sc_law.nd (xe_op o_add (xe_op o_add (xe_op o_add (xe_slice (xe_var 4) xo_none (xo_some (xe_var 8))) (xe_lst (xa_cons (xe_var 10) xa_nil))) (xe_slice (xe_var 4) (xo_some (xe_var 8)) xo_none)) (xe_op o_mul (xe_lst (xa_cons (xe_tup xa_nil) xa_nil)) (xe_call c__law_drawn hr (by rfl) (xa_cons (xe_var 1) (xa_cons xe_int xa_nil))))))
    (xss_one (xs_if (xt_not (xt_val (xe_call c__law_same hr (by rfl) (xa_cons (xe_wordQ (q := ("law" : Str) ++ ".<locals>.") (k := 5) T.f__law_word (by rfl) (by rfl) sc__law_word (by rfl) (Or.inl rfl) (by rfl) T.g_NewsError (by decide) (fun _ => rfl) (by rfl) (by rfl) (by rfl) (word_ex T) (fun g cdv s H a oe d pn c hc hz hf => suite_ok T (hr.deeper _) hc hz hf) B0 rfl rfl mem_0 (uni_0 T.ne) hr (LamX.lamS_by (by kernel_rfl)) (by rfl) (fun _ _ _ _ _ => rfl) (fun A2 outer2 s2 H2 E2 f2 c2 hr tk => (xe_callX l_shows hr tk (by rfl) (xa_cons (xe_var 13) (xa_cons (xe_var 14) (xa_cons (xe_var 12) (xa_cons (xe_var 15) (xa_cons (xe_var 11) xa_nil))))))) rs_ok) (xa_cons (xe_tup (xa_cons xe_str (xa_cons (xe_var 8) xa_nil))) xa_nil))))) (xss_one (xs_ret xe_bl))
    xss_nil)))))))))))))))))))
    (xss_one (xs_ret xe_bl))))
end
theorem all_mk {l : PySem.W.OpenLaw} {w : World} {K : Fg} {h : Heap} {mg : Str → Option Value} {fa : Addr} (X : K.In h) (G : h.Ns mainGlobals mg) (hfa : mg "law" = some (.ref fa)) (own : OwnTabs K mg h ["law", "_all_in"]) (lok : LawOk m_law)
    {od0 an0 : Option Addr} {sl0 : Array (Option Value)} {oc0 kV0 dc0 pm0 cd0 ct0 : Value} {f0 : Addr}
    (a0 : PySem.W.nsIn K mainGlobals "_law_start" = some (some (.ref f0)))
    (l0 : K.lookup f0 = some ⟨oc0, od0, .func (PySem.W.fnOf "_law_start" "_law_start" (defArgs s__law_start) (defBody s__law_start) (defScope s__law_start) .none kV0 dc0 pm0 an0 cd0 ct0), sl0⟩) (c0 : PySem.W.codeIn K cd0 "_law_start" = true) (k0 : PySem.W.keepIn K (.ref f0) = true)
    {od1 an1 : Option Addr} {sl1 : Array (Option Value)} {oc1 kV1 dc1 pm1 cd1 ct1 : Value} {f1 : Addr}
    (a1 : PySem.W.nsIn K mainGlobals "_law_drawn" = some (some (.ref f1)))
    (l1 : K.lookup f1 = some ⟨oc1, od1, .func (PySem.W.fnOf "_law_drawn" "_law_drawn" (defArgs s__law_drawn) (defBody s__law_drawn) (defScope s__law_drawn) .none kV1 dc1 pm1 an1 cd1 ct1), sl1⟩) (c1 : PySem.W.codeIn K cd1 "_law_drawn" = true) (k1 : PySem.W.keepIn K (.ref f1) = true)
    {od2 an2 : Option Addr} {sl2 : Array (Option Value)} {oc2 kV2 dc2 pm2 cd2 ct2 : Value} {f2 : Addr}
    (a2 : PySem.W.nsIn K mainGlobals "_law_ties" = some (some (.ref f2)))
    (l2 : K.lookup f2 = some ⟨oc2, od2, .func (PySem.W.fnOf "_law_ties" "_law_ties" (defArgs s__law_ties) (defBody s__law_ties) (defScope s__law_ties) .none kV2 dc2 pm2 an2 cd2 ct2), sl2⟩) (c2 : PySem.W.codeIn K cd2 "_law_ties" = true) (k2 : PySem.W.keepIn K (.ref f2) = true)
    {od3 an3 : Option Addr} {sl3 : Array (Option Value)} {oc3 kV3 dc3 pm3 cd3 ct3 : Value} {f3 : Addr}
    (a3 : PySem.W.nsIn K mainGlobals "_law_near" = some (some (.ref f3)))
    (l3 : K.lookup f3 = some ⟨oc3, od3, .func (PySem.W.fnOf "_law_near" "_law_near" (defArgs s__law_near) (defBody s__law_near) (defScope s__law_near) .none kV3 dc3 pm3 an3 cd3 ct3), sl3⟩) (c3 : PySem.W.codeIn K cd3 "_law_near" = true) (k3 : PySem.W.keepIn K (.ref f3) = true)
    {od4 an4 : Option Addr} {sl4 : Array (Option Value)} {oc4 kV4 dc4 pm4 cd4 ct4 : Value} {f4 : Addr}
    (a4 : PySem.W.nsIn K mainGlobals "_law_rows" = some (some (.ref f4)))
    (l4 : K.lookup f4 = some ⟨oc4, od4, .func (PySem.W.fnOf "_law_rows" "_law_rows" (defArgs s__law_rows) (defBody s__law_rows) (defScope s__law_rows) .none kV4 dc4 pm4 an4 cd4 ct4), sl4⟩) (c4 : PySem.W.codeIn K cd4 "_law_rows" = true) (k4 : PySem.W.keepIn K (.ref f4) = true)
    {od5 an5 : Option Addr} {sl5 : Array (Option Value)} {oc5 kV5 dc5 pm5 cd5 ct5 : Value} {f5 : Addr}
    (a5 : PySem.W.nsIn K mainGlobals "_law_spoilt" = some (some (.ref f5)))
    (l5 : K.lookup f5 = some ⟨oc5, od5, .func (PySem.W.fnOf "_law_spoilt" "_law_spoilt" (defArgs s__law_spoilt) (defBody s__law_spoilt) (defScope s__law_spoilt) .none kV5 dc5 pm5 an5 cd5 ct5), sl5⟩) (c5 : PySem.W.codeIn K cd5 "_law_spoilt" = true) (k5 : PySem.W.keepIn K (.ref f5) = true)
    {od6 an6 : Option Addr} {sl6 : Array (Option Value)} {oc6 kV6 dc6 pm6 cd6 ct6 : Value} {f6 : Addr}
    (a6 : PySem.W.nsIn K mainGlobals "_law_same" = some (some (.ref f6)))
    (l6 : K.lookup f6 = some ⟨oc6, od6, .func (PySem.W.fnOf "_law_same" "_law_same" (defArgs s__law_same) (defBody s__law_same) (defScope s__law_same) .none kV6 dc6 pm6 an6 cd6 ct6), sl6⟩) (c6 : PySem.W.codeIn K cd6 "_law_same" = true) (k6 : PySem.W.keepIn K (.ref f6) = true)
    {od7 an7 : Option Addr} {sl7 : Array (Option Value)} {oc7 kV7 dc7 pm7 cd7 ct7 : Value} {f7 : Addr}
    (a7 : PySem.W.nsIn K mainGlobals "is_whole" = some (some (.ref f7)))
    (l7 : K.lookup f7 = some ⟨oc7, od7, .func (PySem.W.fnOf "is_whole" "is_whole" (defArgs s_is_whole) (defBody s_is_whole) (defScope s_is_whole) .none kV7 dc7 pm7 an7 cd7 ct7), sl7⟩) (c7 : PySem.W.codeIn K cd7 "is_whole" = true) (k7 : PySem.W.keepIn K (.ref f7) = true)
    {od8 an8 : Option Addr} {sl8 : Array (Option Value)} {oc8 kV8 dc8 pm8 cd8 ct8 : Value} {f8 : Addr}
    (a8 : PySem.W.nsIn K mainGlobals "check_count" = some (some (.ref f8)))
    (l8 : K.lookup f8 = some ⟨oc8, od8, .func (PySem.W.fnOf "check_count" "check_count" (defArgs s_check_count) (defBody s_check_count) (defScope s_check_count) .none kV8 dc8 pm8 an8 cd8 ct8), sl8⟩) (c8 : PySem.W.codeIn K cd8 "check_count" = true) (k8 : PySem.W.keepIn K (.ref f8) = true)
    {od9 an9 : Option Addr} {sl9 : Array (Option Value)} {oc9 kV9 dc9 pm9 cd9 ct9 : Value} {f9 : Addr}
    (a9 : PySem.W.nsIn K mainGlobals "is_two" = some (some (.ref f9)))
    (l9 : K.lookup f9 = some ⟨oc9, od9, .func (PySem.W.fnOf "is_two" "is_two" (defArgs s_is_two) (defBody s_is_two) (defScope s_is_two) .none kV9 dc9 pm9 an9 cd9 ct9), sl9⟩) (c9 : PySem.W.codeIn K cd9 "is_two" = true) (k9 : PySem.W.keepIn K (.ref f9) = true)
    {od10 an10 : Option Addr} {sl10 : Array (Option Value)} {oc10 kV10 dc10 pm10 cd10 ct10 : Value} {f10 : Addr}
    (a10 : PySem.W.nsIn K mainGlobals "is_pair" = some (some (.ref f10)))
    (l10 : K.lookup f10 = some ⟨oc10, od10, .func (PySem.W.fnOf "is_pair" "is_pair" (defArgs s_is_pair) (defBody s_is_pair) (defScope s_is_pair) .none kV10 dc10 pm10 an10 cd10 ct10), sl10⟩) (c10 : PySem.W.codeIn K cd10 "is_pair" = true) (k10 : PySem.W.keepIn K (.ref f10) = true)
    {od11 an11 : Option Addr} {sl11 : Array (Option Value)} {oc11 kV11 dc11 pm11 cd11 ct11 : Value} {f11 : Addr}
    (a11 : PySem.W.nsIn K mainGlobals "_neighbours" = some (some (.ref f11)))
    (l11 : K.lookup f11 = some ⟨oc11, od11, .func (PySem.W.fnOf "_neighbours" "_neighbours" (defArgs s__neighbours) (defBody s__neighbours) (defScope s__neighbours) .none kV11 dc11 pm11 an11 cd11 ct11), sl11⟩) (c11 : PySem.W.codeIn K cd11 "_neighbours" = true) (k11 : PySem.W.keepIn K (.ref f11) = true)
    {od12 an12 : Option Addr} {sl12 : Array (Option Value)} {oc12 kV12 dc12 pm12 cd12 ct12 : Value} {f12 : Addr}
    (a12 : PySem.W.nsIn K mainGlobals "check_house" = some (some (.ref f12)))
    (l12 : K.lookup f12 = some ⟨oc12, od12, .func (PySem.W.fnOf "check_house" "check_house" (defArgs s_check_house) (defBody s_check_house) (defScope s_check_house) .none kV12 dc12 pm12 an12 cd12 ct12), sl12⟩) (c12 : PySem.W.codeIn K cd12 "check_house" = true) (k12 : PySem.W.keepIn K (.ref f12) = true)
    {od13 an13 : Option Addr} {sl13 : Array (Option Value)} {oc13 kV13 dc13 pm13 cd13 ct13 : Value} {f13 : Addr}
    (a13 : PySem.W.nsIn K mainGlobals "check_houses" = some (some (.ref f13)))
    (l13 : K.lookup f13 = some ⟨oc13, od13, .func (PySem.W.fnOf "check_houses" "check_houses" (defArgs s_check_houses) (defBody s_check_houses) (defScope s_check_houses) .none kV13 dc13 pm13 an13 cd13 ct13), sl13⟩) (c13 : PySem.W.codeIn K cd13 "check_houses" = true) (k13 : PySem.W.keepIn K (.ref f13) = true)
    {od14 an14 : Option Addr} {sl14 : Array (Option Value)} {oc14 kV14 dc14 pm14 cd14 ct14 : Value} {f14 : Addr}
    (a14 : PySem.W.nsIn K mainGlobals "_check_rows" = some (some (.ref f14)))
    (l14 : K.lookup f14 = some ⟨oc14, od14, .func (PySem.W.fnOf "_check_rows" "_check_rows" (defArgs s__check_rows) (defBody s__check_rows) (defScope s__check_rows) .none kV14 dc14 pm14 an14 cd14 ct14), sl14⟩) (c14 : PySem.W.codeIn K cd14 "_check_rows" = true) (k14 : PySem.W.keepIn K (.ref f14) = true)
    {od15 an15 : Option Addr} {sl15 : Array (Option Value)} {oc15 kV15 dc15 pm15 ct15 : Value} {f15 : Addr}
    (a15 : PySem.W.nsIn K mainGlobals "_all_in" = some (some (.ref f15)))
    {c901 P901 : Addr} {tv901 : Array Value} {te901 : Value} {td901 : Option Addr} {ts901 : Array (Option Value)}
    (l15 : K.lookup f15 = some ⟨oc15, od15, .func (PySem.W.fnOf "_all_in" "_all_in" (defArgs s__all_in) (defBody s__all_in) (defScope s__all_in) .none kV15 dc15 pm15 an15 (.ref c901) ct15), sl15⟩) (c15 : PySem.W.codeIn K (.ref c901) "_all_in" = true) (k15 : PySem.W.keepIn K (.ref f15) = true)
    (lc901 : K.lookup c901 = some ⟨te901, td901, .fields tv901, ts901⟩) (vp901 : tv901[11]? = some (.ref P901)) (nP901 : K.lookup P901 = none) (hd901 : PySem.W.codeHdIn K c901 P901 = true)
    {od16 an16 : Option Addr} {sl16 : Array (Option Value)} {oc16 kV16 dc16 pm16 cd16 ct16 : Value} {f16 : Addr}
    (a16 : PySem.W.nsIn K mainGlobals "shows" = some (some (.ref f16)))
    (l16 : K.lookup f16 = some ⟨oc16, od16, .func (PySem.W.fnOf "shows" "shows" (defArgs s_shows) (defBody s_shows) (defScope s_shows) .none kV16 dc16 pm16 an16 cd16 ct16), sl16⟩) (c16 : PySem.W.codeIn K cd16 "shows" = true) (k16 : PySem.W.keepIn K (.ref f16) = true)
    {od17 an17 : Option Addr} {sl17 : Array (Option Value)} {oc17 kV17 dc17 pm17 cd17 ct17 : Value} {f17 : Addr}
    (a17 : PySem.W.nsIn K mainGlobals "_law_does" = some (some (.ref f17)))
    (l17 : K.lookup f17 = some ⟨oc17, od17, .func (PySem.W.fnOf "_law_does" "_law_does" (defArgs s__law_does) (defBody s__law_does) (defScope s__law_does) .none kV17 dc17 pm17 an17 cd17 ct17), sl17⟩) (c17 : PySem.W.codeIn K cd17 "_law_does" = true) (k17 : PySem.W.keepIn K (.ref f17) = true)
    {od18 an18 : Option Addr} {sl18 : Array (Option Value)} {oc18 kV18 dc18 pm18 cd18 ct18 : Value} {f18 : Addr}
    (a18 : PySem.W.nsIn K mainGlobals "_law_word" = some (some (.ref f18)))
    (l18 : K.lookup f18 = some ⟨oc18, od18, .func (PySem.W.fnOf "_law_word" "_law_word" (defArgs s__law_word) (defBody s__law_word) (defScope s__law_word) .none kV18 dc18 pm18 an18 cd18 ct18), sl18⟩) (c18 : PySem.W.codeIn K cd18 "_law_word" = true) (k18 : PySem.W.keepIn K (.ref f18) = true)
    {od19 an19 : Option Addr} {sl19 : Array (Option Value)} {oc19 kV19 dc19 pm19 ct19 : Value} {f19 : Addr}
    (a19 : PySem.W.nsIn K mainGlobals "law" = some (some (.ref f19)))
    {c900 P900 : Addr} {tv900 : Array Value} {te900 : Value} {td900 : Option Addr} {ts900 : Array (Option Value)}
    (l19 : K.lookup f19 = some ⟨oc19, od19, .func (PySem.W.fnOf "law" "law" (defArgs s_law) (defBody s_law) (defScope s_law) .none kV19 dc19 pm19 an19 (.ref c900) ct19), sl19⟩) (c19 : PySem.W.codeIn K (.ref c900) "law" = true) (k19 : PySem.W.keepIn K (.ref f19) = true)
    (lc900 : K.lookup c900 = some ⟨te900, td900, .fields tv900, ts900⟩) (vp900 : tv900[11]? = some (.ref P900)) (nP900 : K.lookup P900 = none) (hd900 : PySem.W.codeHdIn K c900 P900 = true)
    (z_ValueError : PySem.W.nsIn K mainGlobals "ValueError" = some none)
    (z_all : PySem.W.nsIn K mainGlobals "all" = some none)
    (z_bool : PySem.W.nsIn K mainGlobals "bool" = some none)
    (z_enumerate : PySem.W.nsIn K mainGlobals "enumerate" = some none)
    (z_int : PySem.W.nsIn K mainGlobals "int" = some none)
    (z_isinstance : PySem.W.nsIn K mainGlobals "isinstance" = some none)
    (z_len : PySem.W.nsIn K mainGlobals "len" = some none)
    (z_list : PySem.W.nsIn K mainGlobals "list" = some none)
    (z_range : PySem.W.nsIn K mainGlobals "range" = some none)
    (z_set : PySem.W.nsIn K mainGlobals "set" = some none)
    (z_sorted : PySem.W.nsIn K mainGlobals "sorted" = some none)
    (z_str : PySem.W.nsIn K mainGlobals "str" = some none)
    (z_super : PySem.W.nsIn K mainGlobals "super" = some none)
    (z_tuple : PySem.W.nsIn K mainGlobals "tuple" = some none)
    {t_FEWEST_HOUSES : Tok} (y_FEWEST_HOUSES : PySem.W.nsIn K mainGlobals "FEWEST_HOUSES" = some (some (.int 2 t_FEWEST_HOUSES)))
    {t_MOST_HOUSES : Tok} (y_MOST_HOUSES : PySem.W.nsIn K mainGlobals "MOST_HOUSES" = some (some (.int 8 t_MOST_HOUSES)))
    (ne : ([P900, P901] : List Addr).Nodup)
    {NW : Addr} (aNW : PySem.W.nsIn K mainGlobals "NewsError" = some (some (.ref NW)))
    {A28 : Addr} (aA28 : PySem.W.nsIn K mainGlobals "BadRow" = some (some (.ref A28)))
    (xw28 : XwD K A28 NW)
    {D20 : Addr} (aD20 : PySem.W.nsIn K mainGlobals "BadHouse" = some (some (.ref D20)))
    (kt28_20 : PySem.W.kitOne K (.ref A28) (.ref D20) = some false)
    {D21 : Addr} (aD21 : PySem.W.nsIn K mainGlobals "BadDay" = some (some (.ref D21)))
    (kt28_21 : PySem.W.kitOne K (.ref A28) (.ref D21) = some false)
    {D22 : Addr} (aD22 : PySem.W.nsIn K mainGlobals "BadWorth" = some (some (.ref D22)))
    (kt28_22 : PySem.W.kitOne K (.ref A28) (.ref D22) = some false)
    {D23 : Addr} (aD23 : PySem.W.nsIn K mainGlobals "BadLife" = some (some (.ref D23)))
    (kt28_23 : PySem.W.kitOne K (.ref A28) (.ref D23) = some false)
    {D24 : Addr} (aD24 : PySem.W.nsIn K mainGlobals "NotOwn" = some (some (.ref D24)))
    (kt28_24 : PySem.W.kitOne K (.ref A28) (.ref D24) = some false)
    {D25 : Addr} (aD25 : PySem.W.nsIn K mainGlobals "BadLetter" = some (some (.ref D25)))
    (kt28_25 : PySem.W.kitOne K (.ref A28) (.ref D25) = some false)
    {D26 : Addr} (aD26 : PySem.W.nsIn K mainGlobals "BadTies" = some (some (.ref D26)))
    (kt28_26 : PySem.W.kitOne K (.ref A28) (.ref D26) = some false)
    {D27 : Addr} (aD27 : PySem.W.nsIn K mainGlobals "NoWay" = some (some (.ref D27)))
    (kt28_27 : PySem.W.kitOne K (.ref A28) (.ref D27) = some false)
    {D28 : Addr} (aD28 : PySem.W.nsIn K mainGlobals "BadRow" = some (some (.ref D28)))
    (kt28_28 : PySem.W.kitOne K (.ref A28) (.ref D28) = some true)
    {D29 : Addr} (aD29 : PySem.W.nsIn K mainGlobals "BadText" = some (some (.ref D29)))
    (kt28_29 : PySem.W.kitOne K (.ref A28) (.ref D29) = some false)
    (nf28 : PySem.W.findIn K (.ref A28) "number" = some none) (su28 : SupD l.prog w K mg A28 "number" "row " " is none") :
    LamX.LawAtS l w K CX0 8 63 "_law_script" mg fa h := by
  have e := hfa.symm.trans (PySem.W.mg_of X G a19)
  cases e
  have F0 := fun_mk (st := s__law_start) l0 c0 k0
  have b0 := F0.binds (ps := ["_law_script"]) fun _ _ _ _ _ _ us hl => match us, hl with | [_], _ => rfl
  have F1 := fun_mk (st := s__law_drawn) l1 c1 k1
  have b1 := F1.binds (ps := ["_law_state", "_law_many"]) fun _ _ _ _ _ _ us hl => match us, hl with | [_, _], _ => rfl
  have F2 := fun_mk (st := s__law_ties) l2 c2 k2
  have b2 := F2.binds (ps := ["_law_state", "_law_many"]) fun _ _ _ _ _ _ us hl => match us, hl with | [_, _], _ => rfl
  have F3 := fun_mk (st := s__law_near) l3 c3 k3
  have b3 := F3.binds (ps := ["_law_many", "_law_ties_here"]) fun _ _ _ _ _ _ us hl => match us, hl with | [_, _], _ => rfl
  have F4 := fun_mk (st := s__law_rows) l4 c4 k4
  have b4 := F4.binds (ps := ["_law_state", "_law_near_here", "_law_has"]) fun _ _ _ _ _ _ us hl => match us, hl with | [_, _, _], _ => rfl
  have F5 := fun_mk (st := s__law_spoilt) l5 c5 k5
  have b5 := F5.binds (ps := ["_law_state", "_law_rows_here", "_law_many"]) fun _ _ _ _ _ _ us hl => match us, hl with | [_, _, _], _ => rfl
  have F6 := fun_mk (st := s__law_same) l6 c6 k6
  have b6 := F6.binds (ps := ["_law_found", "_law_due"]) fun _ _ _ _ _ _ us hl => match us, hl with | [_, _], _ => rfl
  have F7 := fun_mk (st := s_is_whole) l7 c7 k7
  have b7 := F7.binds (ps := ["value", "low", "high"]) fun _ _ _ _ _ _ us hl => match us, hl with | [_, _, _], _ => rfl
  have F8 := fun_mk (st := s_check_count) l8 c8 k8
  have b8 := F8.binds (ps := ["many"]) fun _ _ _ _ _ _ us hl => match us, hl with | [_], _ => rfl
  have F9 := fun_mk (st := s_is_two) l9 c9 k9
  have b9 := F9.binds (ps := ["value", "first", "second"]) fun _ _ _ _ _ _ us hl => match us, hl with | [_, _, _], _ => rfl
  have F10 := fun_mk (st := s_is_pair) l10 c10 k10
  have b10 := F10.binds (ps := ["value", "many"]) fun _ _ _ _ _ _ us hl => match us, hl with | [_, _], _ => rfl
  have F11 := fun_mk (st := s__neighbours) l11 c11 k11
  have b11 := F11.binds (ps := ["many", "ties"]) fun _ _ _ _ _ _ us hl => match us, hl with | [_, _], _ => rfl
  have F12 := fun_mk (st := s_check_house) l12 c12 k12
  have b12 := F12.binds (ps := ["house", "many"]) fun _ _ _ _ _ _ us hl => match us, hl with | [_, _], _ => rfl
  have F13 := fun_mk (st := s_check_houses) l13 c13 k13
  have b13 := F13.binds (ps := ["houses", "many"]) fun _ _ _ _ _ _ us hl => match us, hl with | [_, _], _ => rfl
  have F14 := fun_mk (st := s__check_rows) l14 c14 k14
  have b14 := F14.binds (ps := ["rows", "many"]) fun _ _ _ _ _ _ us hl => match us, hl with | [_, _], _ => rfl
  have b15 : Binds K (PySem.W.fnOf "_all_in" "_all_in" (defArgs s__all_in) (defBody s__all_in) (defScope s__all_in) .none kV15 dc15 pm15 an15 (.ref c901) ct15) ["wants", "holders"] [] := (fun_mk (st := s__all_in) l15 c15 k15).binds (ps := ["wants", "holders"]) fun _ _ _ _ _ _ us hl => match us, hl with | [_, _], _ => rfl
  have F16 := fun_mk (st := s_shows) l16 c16 k16
  have b16 := F16.binds (ps := ["many", "ties", "has", "wants", "rows"]) fun _ _ _ _ _ _ us hl => match us, hl with | [_, _, _, _, _], _ => rfl
  have F17 := fun_mk (st := s__law_does) l17 c17 k17
  have b17 := F17.binds (ps := ["_law_near_here", "_law_has", "_law_wants", "_law_rows_here"]) fun _ _ _ _ _ _ us hl => match us, hl with | [_, _, _, _], _ => rfl
  have F18 := fun_mk (st := s__law_word) l18 c18 k18
  have b18 := F18.binds (ps := ["_law_work"]) fun _ _ _ _ _ _ us hl => match us, hl with | [_], _ => rfl
  have b19 : Binds K (PySem.W.fnOf "law" "law" (defArgs s_law) (defBody s_law) (defScope s_law) .none kV19 dc19 pm19 an19 (.ref c900) ct19) ["_law_script"] [] := (fun_mk (st := s_law) l19 c19 k19).binds (ps := ["_law_script"]) fun _ _ _ _ _ _ us hl => match us, hl with | [_], _ => rfl
  have T : Top K mg A28 P900 P901 w l.prog NW c900 c901 := ⟨PySem.W.mg_none_of X G z_ValueError, PySem.W.mg_none_of X G z_all, PySem.W.mg_none_of X G z_bool, PySem.W.mg_none_of X G z_enumerate, PySem.W.mg_none_of X G z_int, PySem.W.mg_none_of X G z_isinstance, PySem.W.mg_none_of X G z_len, PySem.W.mg_none_of X G z_list, PySem.W.mg_none_of X G z_range, PySem.W.mg_none_of X G z_set, PySem.W.mg_none_of X G z_sorted, PySem.W.mg_none_of X G z_str, PySem.W.mg_none_of X G z_super, PySem.W.mg_none_of X G z_tuple, ⟨_, PySem.W.mg_of X G y_FEWEST_HOUSES⟩, ⟨_, PySem.W.mg_of X G y_MOST_HOUSES⟩, ne, PySem.W.mg_of X G aNW, PySem.W.mg_of X G aA28, xw28, ⟨_, PySem.W.mg_of X G aD20, kt28_20⟩, ⟨_, PySem.W.mg_of X G aD21, kt28_21⟩, ⟨_, PySem.W.mg_of X G aD22, kt28_22⟩, ⟨_, PySem.W.mg_of X G aD23, kt28_23⟩, ⟨_, PySem.W.mg_of X G aD24, kt28_24⟩, ⟨_, PySem.W.mg_of X G aD25, kt28_25⟩, ⟨_, PySem.W.mg_of X G aD26, kt28_26⟩, ⟨_, PySem.W.mg_of X G aD27, kt28_27⟩, ⟨_, PySem.W.mg_of X G aD28, kt28_28⟩, ⟨_, PySem.W.mg_of X G aD29, kt28_29⟩, nf28, su28, ⟨_, _, F0, PySem.W.mg_of X G a0, b0⟩, ⟨_, _, F1, PySem.W.mg_of X G a1, b1⟩, ⟨_, _, F2, PySem.W.mg_of X G a2, b2⟩, ⟨_, _, F3, PySem.W.mg_of X G a3, b3⟩, ⟨_, _, F4, PySem.W.mg_of X G a4, b4⟩, ⟨_, _, F5, PySem.W.mg_of X G a5, b5⟩, ⟨_, _, F6, PySem.W.mg_of X G a6, b6⟩, ⟨_, _, F7, PySem.W.mg_of X G a7, b7⟩, ⟨_, _, F8, PySem.W.mg_of X G a8, b8⟩, ⟨_, _, F9, PySem.W.mg_of X G a9, b9⟩, ⟨_, _, F10, PySem.W.mg_of X G a10, b10⟩, ⟨_, _, F11, PySem.W.mg_of X G a11, b11⟩, ⟨_, _, F12, PySem.W.mg_of X G a12, b12⟩, ⟨_, _, F13, PySem.W.mg_of X G a13, b13⟩, ⟨_, _, F14, PySem.W.mg_of X G a14, b14⟩, ⟨_, _, _, _, _, _, _, _, _, l15, c15, k15, PySem.W.mg_of X G a15, b15⟩, ⟨_, _, F16, PySem.W.mg_of X G a16, b16⟩, ⟨_, _, F17, PySem.W.mg_of X G a17, b17⟩, ⟨_, _, F18, PySem.W.mg_of X G a18, b18⟩, ⟨_, _, _, _, _, _, _, _, _, l19, c19, k19, PySem.W.mg_of X G a19, b19⟩⟩
  refine ⟨PySem.W.fnOf "law" "law" (defArgs s_law) (defBody s_law) (defScope s_law) .none kV19 dc19 pm19 an19 (.ref c900) ct19, [(c900, P900), (c901, P901)], spFrz (spD0 ⟨K, (ctH A28 P900 P901)⟩ m_law), ?_, ?_, ?_, fun s u => .of_eq rfl, fun H a ns hn hb hT hS => law_spT lok hn hS ?_, fun base KB NB TB => fn_frz (d_law_at l19 c19 T (TB _ (.head _)) (TB _ (.tail _ (.head _))))⟩
  · intro p hp
    simp only [List.mem_cons, List.not_mem_nil, or_false] at hp
    rcases hp with rfl | rfl
    · exact own "law" (by simp) _ (PySem.W.mg_of X G a19) _ _ _ _ _ _ _ _ l19 rfl rfl lc900 vp900
    · exact own "_all_in" (by simp) _ (PySem.W.mg_of X G a15) _ _ _ _ _ _ _ _ l15 rfl rfl lc901 vp901
  · intro p hp
    simp only [List.mem_cons, List.not_mem_nil, or_false] at hp
    rcases hp with rfl | rfl
    · exact nP900
    · exact nP901
  · intro p hp
    simp only [List.mem_cons, List.not_mem_nil, or_false] at hp
    rcases hp with rfl | rfl
    · exact PySem.W.codeHd_of_K X hd900
    · exact PySem.W.codeHd_of_K X hd901
  · intro p hp
    rw [tabs_eq] at hp
    simp only [List.mem_cons, List.not_mem_nil, or_false] at hp
    rcases hp with rfl | rfl
    · exact hT (c900, P900) (by simp)
    · exact hT (c901, P901) (by simp)
end K09
open PySem PySem.W PyProof.Rows
set_option maxHeartbeats 0 in
theorem PySem.Challenge.cw_newsflood_k09_hand_ons_shown_holds : PySem.Challenge.rw_newsflood_k09_hand_ons_shown.Holds := by
  w_on; o_law; k_head; (case hw => w_witness2)
  k_fill
  refine EE.walk_ofTabs ["law", "_all_in"] (l := PySem.Challenge.rw_newsflood_k09_hand_ons_shown) (n := 63) (k := 8) (x := "_law_script") rfl (by decide) rfl ⟨rfl, by decide, by decide⟩ (by decide +kernel) (fun w h Y => by first | exact PySem.W.kIn_of Y | exact PySem.W.km_in_of Y) ?F
  case F =>
    intro w mg fa h Y KX G hmg own
    refine' K09.all_mk KX G hmg own K09.law_ok ?a0 ?l0 ?c0 ?k0 ?a1 ?l1 ?c1 ?k1 ?a2 ?l2 ?c2 ?k2 ?a3 ?l3 ?c3 ?k3 ?a4 ?l4 ?c4 ?k4 ?a5 ?l5 ?c5 ?k5 ?a6 ?l6 ?c6 ?k6 ?a7 ?l7 ?c7 ?k7 ?a8 ?l8 ?c8 ?k8 ?a9 ?l9 ?c9 ?k9 ?a10 ?l10 ?c10 ?k10 ?a11 ?l11 ?c11 ?k11 ?a12 ?l12 ?c12 ?k12 ?a13 ?l13 ?c13 ?k13 ?a14 ?l14 ?c14 ?k14 ?a15 ?l15 ?c15 ?k15 ?lc901 ?vp901 ?nP901 ?hd901 ?a16 ?l16 ?c16 ?k16 ?a17 ?l17 ?c17 ?k17 ?a18 ?l18 ?c18 ?k18 ?a19 ?l19 ?c19 ?k19 ?lc900 ?vp900 ?nP900 ?hd900 ?z_ValueError ?z_all ?z_bool ?z_enumerate ?z_int ?z_isinstance ?z_len ?z_list ?z_range ?z_set ?z_sorted ?z_str ?z_super ?z_tuple ?y_FEWEST_HOUSES ?y_MOST_HOUSES ?ne ?aNW ?aA28 ?xw28 ?aD20 ?kt28_20 ?aD21 ?kt28_21 ?aD22 ?kt28_22 ?aD23 ?kt28_23 ?aD24 ?kt28_24 ?aD25 ?kt28_25 ?aD26 ?kt28_26 ?aD27 ?kt28_27 ?aD28 ?kt28_28 ?aD29 ?kt28_29 ?nf28 ?su28
    (case a0 => k_is)
    (case l0 => k_is)
    (case c0 => k_is)
    (case k0 => k_is)
    (case a1 => k_is)
    (case l1 => k_is)
    (case c1 => k_is)
    (case k1 => k_is)
    (case a2 => k_is)
    (case l2 => k_is)
    (case c2 => k_is)
    (case k2 => k_is)
    (case a3 => k_is)
    (case l3 => k_is)
    (case c3 => k_is)
    (case k3 => k_is)
    (case a4 => k_is)
    (case l4 => k_is)
    (case c4 => k_is)
    (case k4 => k_is)
    (case a5 => k_is)
    (case l5 => k_is)
    (case c5 => k_is)
    (case k5 => k_is)
    (case a6 => k_is)
    (case l6 => k_is)
    (case c6 => k_is)
    (case k6 => k_is)
    (case a7 => k_is)
    (case l7 => k_is)
    (case c7 => k_is)
    (case k7 => k_is)
    (case a8 => k_is)
    (case l8 => k_is)
    (case c8 => k_is)
    (case k8 => k_is)
    (case a9 => k_is)
    (case l9 => k_is)
    (case c9 => k_is)
    (case k9 => k_is)
    (case a10 => k_is)
    (case l10 => k_is)
    (case c10 => k_is)
    (case k10 => k_is)
    (case a11 => k_is)
    (case l11 => k_is)
    (case c11 => k_is)
    (case k11 => k_is)
    (case a12 => k_is)
    (case l12 => k_is)
    (case c12 => k_is)
    (case k12 => k_is)
    (case a13 => k_is)
    (case l13 => k_is)
    (case c13 => k_is)
    (case k13 => k_is)
    (case a14 => k_is)
    (case l14 => k_is)
    (case c14 => k_is)
    (case k14 => k_is)
    (case a15 => k_is)
    (case l15 => k_is)
    (case c15 => k_is)
    (case k15 => k_is)
    (case lc901 => k_is)
    (case vp901 => rfl)
    (case nP901 => kernel_rfl)
    (case hd901 => kernel_rfl)
    (case a16 => k_is)
    (case l16 => k_is)
    (case c16 => k_is)
    (case k16 => k_is)
    (case a17 => k_is)
    (case l17 => k_is)
    (case c17 => k_is)
    (case k17 => k_is)
    (case a18 => k_is)
    (case l18 => k_is)
    (case c18 => k_is)
    (case k18 => k_is)
    (case a19 => k_is)
    (case l19 => k_is)
    (case c19 => k_is)
    (case k19 => k_is)
    (case lc900 => k_is)
    (case vp900 => rfl)
    (case nP900 => kernel_rfl)
    (case hd900 => kernel_rfl)
    (case z_ValueError => k_is)
    (case z_all => k_is)
    (case z_bool => k_is)
    (case z_enumerate => k_is)
    (case z_int => k_is)
    (case z_isinstance => k_is)
    (case z_len => k_is)
    (case z_list => k_is)
    (case z_range => k_is)
    (case z_set => k_is)
    (case z_sorted => k_is)
    (case z_str => k_is)
    (case z_super => k_is)
    (case z_tuple => k_is)
    (case y_FEWEST_HOUSES => k_is)
    (case y_MOST_HOUSES => k_is)
    (case ne => decide)
    (case aNW => k_is)
    (case aA28 => k_is)
    (case xw28 => (refine' EE.xwD_of ?w1 ?w2 ?w3 ?w4 ?w5 ?w6 ?w7 ?w8 ?w9 ?wa ?wb; (case w1 => k_is); (case w2 => k_is); (case w3 => k_is); (case w4 => k_is); (case w5 => k_is); (case w6 => k_is); (case w7 => k_is); (case w8 => k_is); (case w9 => k_is); (case wa => kernel_rfl); (case wb => kernel_rfl)))
    (case aD20 => k_is)
    (case kt28_20 => kernel_rfl)
    (case aD21 => k_is)
    (case kt28_21 => kernel_rfl)
    (case aD22 => k_is)
    (case kt28_22 => kernel_rfl)
    (case aD23 => k_is)
    (case kt28_23 => kernel_rfl)
    (case aD24 => k_is)
    (case kt28_24 => kernel_rfl)
    (case aD25 => k_is)
    (case kt28_25 => kernel_rfl)
    (case aD26 => k_is)
    (case kt28_26 => kernel_rfl)
    (case aD27 => k_is)
    (case kt28_27 => kernel_rfl)
    (case aD28 => k_is)
    (case kt28_28 => kernel_rfl)
    (case aD29 => k_is)
    (case kt28_29 => kernel_rfl)
    (case nf28 => k_is)
    (case su28 => (refine' EE.supD_of (st := K09.s_BadRow___init__) ?u1 ?u2 ?u3 ?u4 ?u5 ?u6 ?u7 ?u8 ?u9 ?ua ?ub ?uc ?ud ?ue ?uf ?ug ?uh ?ui ?uj ?uk ?ul ?um ?un ?uo ?up ?uq ?ur ?us ?ut ?uu ?uv ?uw ?ux ?uy ?uz ?va ?vb ?vc ?vd; (case u1 => kernel_rfl); (case u2 => k_is); (case u3 => k_is); (case u4 => k_is); (case u5 => k_is); (case u6 => k_is); (case u7 => k_is); (case u8 => k_is); (case u9 => rfl); (case ua => exact fun _ => ⟨_, rfl⟩); (case ub => exact fun _ _ _ => .of_eq rfl); (case uc => k_is); (case ud => rfl); (case ue => first | rfl | decide); (case uf => first | rfl | decide); (case ug => k_is); (case uh => k_is); (case ui => k_is); (case uj => rfl); (case uk => rfl); (case ul => decide); (case um => rfl); (case un => rfl); (case uo => rfl); (case up => rfl); (case uq => decide +kernel); (case ur => rfl); (case us => rfl); (case ut => rfl); (case uu => decide); (case uv => decide); (case uw => k_is); (case ux => kernel_rfl); (case uy => k_is); (case uz => k_is); (case va => first | rfl | decide); (case vb => rfl); (case vc => k_is); (case vd => exact PySem.W.mg_none_of KX G (by k_is))))
