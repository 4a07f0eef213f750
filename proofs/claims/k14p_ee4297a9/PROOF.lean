import PyProof.Rows.All
import Wide.All
import OpenK.AllK
import Wide.FinOn
import HandS.ForMost
import HandS.Wide
import HandS.Lambda
import KE.KDictKeyed
import HandS.Deep
import HandS.IsInst
import HandS.Small
import HandS.TupAny
import HandS.DictTup
import HandS.Conv
import HandS.Iter
import HandS.SortInts
import HandS.More
import HandS.DictComp
import HandS.MethStar
import PyProof.CollectIter
import PyProof.WalksMore
import PyProof.WalksS
import HandS.Style
import HandS.TupSets
import HandS.Strs
import HandS.SetFor
import HandS.TupLen
import HandS.Text
import HandS.StrMore
import HandS.RaiseMore
import HandS.Star
import PyProof.Walks
import HandS.Exc
import HandS.ExcOwn
import HandS.WordsExc
import KE.KExcIs
import HandS.ExcIs
import HandS.ExcField
import KE.KExcSuper
import HandS.FStr
import PyProof.FString
import HandS.AnyAll
import HandS.Dict
import HandS.JoinGen
import HandS.EndOwn
import PyProof.RulesMatchSeq
import PyProof.Rows.MatchSeqLen
import HandS.TryOnly
import HandS.Flow
import PyProof.Rows.EqMixed
import KE.GoesRaise
import KE.KAsSuite
import PyProof.P3Eq
import PySem.Challenge.RW_newsflood_k14_texts_refused
set_option Elab.async false
set_option linter.all false
set_option maxRecDepth 100000
set_option maxHeartbeats 1000000
namespace EE
open PySem PySem.Spec PyProof.Rows L2
abbrev Fg := PySem.W.Frag
inductive EV where
  | non | bl (b : Bool) | int (i : Int) | str (x : Str) | ref (n : Nat) | ty (n : String) | tup (xs : List EV) | exc (a : Addr) (d : Option Addr) (nm : List Str) (fs : List EV)
  deriving Inhabited
inductive EO where
  | lst (xs : List EV) | ro (xs : List EV) | dic (t : Bool) (kvs : List (EV × EV)) | lkd (t : Bool) (kvs : List (EV × EV)) | obj (c : Nat) (fs : List (Option EV)) | nd (ks : List (EV × EV))
  deriving Inhabited
abbrev ES := List (Option EV)
abbrev EH := List EO
abbrev Rho := List (Bool × Addr)
def adr (ρ : Rho) (n : Nat) : Option Addr := (ρ[n]?).map (·.2)
mutual
def VR (K : Fg) (ρ : Rho) (H : Hp) : EV → V → Prop
  | .non, v => v = .non
  | .bl b, v => v = .bl b
  | .int i, v => v = .int i
  | .str x, v => v = .str x
  | .ref n, v => ∃ a, adr ρ n = some a ∧ v = .ref a
  | .ty n, v => v = .ty n
  | .exc a d nm fs, v => v = .ref a ∧ ∃ vs, VRs K ρ H fs vs ∧ ∀ dd, d = some dd → H dd = some (.xd (nm.zip vs))
  | .tup xs, v => ∃ a vs, v = .ref a ∧ H a = some (.tup vs) ∧ VRs K ρ H xs vs
def VRs (K : Fg) (ρ : Rho) (H : Hp) : List EV → List V → Prop
  | [], vs => vs = []
  | x :: xs, vs => ∃ v r, vs = v :: r ∧ VR K ρ H x v ∧ VRs K ρ H xs r
end
def tabOf (ct : Nat → Addr × List Str) : List (Addr × Str) := (List.range 4).filterMap fun i => match (ct (900 + i)).2 with
  | [q] => some ((ct (900 + i)).1, q)
  | _ => none
def NoTb (v : HO) : Prop := (∀ ps, v ≠ .tbl ps) ∧ (∀ c q, v ≠ LamX.CodeO c q) ∧ ∀ fs, v ≠ .xd fs
theorem tabs_upd {T : List (Addr × Str)} {H : Hp} {p : Addr} {u : HO} (t : LamX.Tabs T H) (hp : ∀ v, H p = some v → NoTb v) : LamX.Tabs T (upd H p u) := fun x hx => by
  obtain ⟨ps, h1, h2, h3⟩ := t x hx
  refine ⟨ps, ?_, h2, fun pos cv hc => ?_⟩
  · rw [upd_ne (fun e => (hp _ (e ▸ h1)).1 _ rfl)]
    exact h1
  · obtain ⟨c, e1, e2⟩ := h3 pos cv hc
    exact ⟨c, e1, by rw [upd_ne (fun e => (hp _ (show H p = some (LamX.CodeO c x.2) by rw [← e]; exact e2)).2.1 _ _ rfl)]; exact e2⟩
theorem pln_lst {xs : List V} : NoTb (.lst xs) := ⟨(fun _ z => nomatch z), (fun _ _ z => by unfold LamX.CodeO at z; cases z), (fun _ z => nomatch z)⟩
theorem pln_dK {xs : List (Key × V)} : NoTb (.dK xs) := ⟨(fun _ z => nomatch z), (fun _ _ z => by unfold LamX.CodeO at z; cases z), (fun _ z => nomatch z)⟩
theorem pln_dT {xs : List (List Key × V)} : NoTb (.dT xs) := ⟨(fun _ z => nomatch z), (fun _ _ z => by unfold LamX.CodeO at z; cases z), (fun _ z => nomatch z)⟩
theorem pln_frz {o : Obj} {v : HO} : NoTb (.frz o v) := ⟨(fun _ z => nomatch z), (fun _ _ z => by unfold LamX.CodeO at z; cases z), (fun _ z => nomatch z)⟩
theorem pln_ins {C dx : Addr} {l : List (Str × V)} : NoTb (.ins C dx l) := ⟨(fun _ z => nomatch z), (fun _ _ z => by unfold LamX.CodeO at z; cases z), (fun _ z => nomatch z)⟩
structure Ext0 (K : Fg) (ρ ρ' : Rho) (H H' : Hp) : Prop where
  pre : ∃ t, ρ' = ρ ++ t
  tup : ∀ a xs, H a = some (.tup xs) → H' a = some (.tup xs)
  frz : ∀ a o u, H a = some (.frz o u) → H' a = some (.frz o u)
  xd : ∀ a fs, H a = some (.xd fs) → H' a = some (.xd fs)
structure Ext (K : Fg) (ρ ρ' : Rho) (H H' : Hp) : Prop extends Ext0 K ρ ρ' H H' where
  new : ∀ a, (true, a) ∈ ρ' → (true, a) ∈ ρ ∨ ∀ o, H a = some o → ∃ ps, o = .tbl ps
  rest : ∀ a o, H a = some o → (∀ ps, o ≠ .tbl ps) → (true, a) ∉ ρ → H' a = some o
theorem Ext.refl (K : Fg) (ρ : Rho) (H : Hp) : Ext K ρ ρ H H :=
  ⟨⟨⟨[], by simp⟩, fun _ _ h => h, fun _ _ _ h => h, fun _ _ h => h⟩, fun _ h => .inl h, fun _ _ h _ _ => h⟩
theorem Ext.trans {K : Fg} {ρ ρ1 ρ2 : Rho} {H H1 H2 : Hp} (a : Ext K ρ ρ1 H H1) (b : Ext K ρ1 ρ2 H1 H2) : Ext K ρ ρ2 H H2 := by
  obtain ⟨t1, e1⟩ := a.pre
  obtain ⟨t2, e2⟩ := b.pre
  refine ⟨⟨⟨t1 ++ t2, by rw [e2, e1, List.append_assoc]⟩, fun x xs h => b.tup _ _ (a.tup _ _ h), fun x o u h => b.frz _ _ _ (a.frz _ _ _ h), fun x fs h => b.xd _ _ (a.xd _ _ h)⟩, fun x h => ?_, fun x o h hp hn => ?_⟩
  · rcases b.new x h with h1 | h1
    · exact a.new x h1
    · by_cases hx : (true, x) ∈ ρ
      · exact .inl hx
      · right
        intro o ho
        by_cases ht : ∃ ps, o = .tbl ps
        · exact ht
        · exact h1 o (a.rest x o ho (fun ps z => ht ⟨ps, z⟩) hx)
  · have h1 := a.rest x o h hp hn
    refine b.rest x o h1 hp fun hm => ?_
    rcases a.new x hm with z | z
    · exact hn z
    · obtain ⟨ps, q⟩ := z o h
      exact hp ps q
theorem Ext0.at {K : Fg} {ρ ρ' : Rho} {H H' : Hp} (e : Ext0 K ρ ρ' H H') {n : Nat} {a : Bool × Addr} (h : ρ[n]? = some a) : ρ'[n]? = some a := by
  obtain ⟨t, rfl⟩ := e.pre
  rw [List.getElem?_append_left (List.getElem?_eq_some_iff.mp h).1]
  exact h
theorem Ext0.get {K : Fg} {ρ ρ' : Rho} {H H' : Hp} (e : Ext0 K ρ ρ' H H') {n : Nat} {a : Addr} (h : adr ρ n = some a) : adr ρ' n = some a := by
  unfold adr at h ⊢
  obtain ⟨b, h1, h2⟩ := Option.map_eq_some_iff.mp h
  rw [e.at h1]
  exact congrArg some h2
theorem adr_of {ρ : Rho} {n : Nat} {b : Bool} {a : Addr} (h : ρ[n]? = some (b, a)) : adr ρ n = some a := by
  unfold adr
  rw [h]
  rfl
mutual
theorem VR.mono0 {K : Fg} {ρ ρ' : Rho} {H H' : Hp} (e : Ext0 K ρ ρ' H H') : ∀ (x : EV) (v : V), VR K ρ H x v → VR K ρ' H' x v
  | .non, v, h => by simp only [VR] at h ⊢; exact h
  | .bl b, v, h => by simp only [VR] at h ⊢; exact h
  | .int i, v, h => by simp only [VR] at h ⊢; exact h
  | .str s, v, h => by simp only [VR] at h ⊢; exact h
  | .ty n, v, h => by simp only [VR] at h ⊢; exact h
  | .exc a d nm fs, v, h => by
    simp only [VR] at h ⊢
    obtain ⟨h1, vs, h2, h3⟩ := h
    exact ⟨h1, vs, VRs.mono0 e fs vs h2, fun dd hd => e.xd _ _ (h3 dd hd)⟩
  | .ref n, v, h => by
    simp only [VR] at h ⊢
    obtain ⟨a, h1, h2⟩ := h
    exact ⟨a, e.get h1, h2⟩
  | .tup xs, v, h => by
    simp only [VR] at h ⊢
    obtain ⟨a, vs, h1, h2, h3⟩ := h
    exact ⟨a, vs, h1, e.tup _ _ h2, VRs.mono0 e xs vs h3⟩
theorem VRs.mono0 {K : Fg} {ρ ρ' : Rho} {H H' : Hp} (e : Ext0 K ρ ρ' H H') : ∀ (xs : List EV) (vs : List V), VRs K ρ H xs vs → VRs K ρ' H' xs vs
  | [], vs, h => by simp only [VRs] at h ⊢; exact h
  | x :: xs, vs, h => by
    simp only [VRs] at h ⊢
    obtain ⟨v, r, h1, h2, h3⟩ := h
    exact ⟨v, r, h1, VR.mono0 e x v h2, VRs.mono0 e xs r h3⟩
end
theorem VR.mono {K : Fg} {ρ ρ' : Rho} {H H' : Hp} (e : Ext K ρ ρ' H H') (x : EV) (v : V) (h : VR K ρ H x v) : VR K ρ' H' x v := VR.mono0 e.toExt0 x v h
theorem VRs.mono {K : Fg} {ρ ρ' : Rho} {H H' : Hp} (e : Ext K ρ ρ' H H') (x : List EV) (v : List V) (h : VRs K ρ H x v) : VRs K ρ' H' x v := VRs.mono0 e.toExt0 x v h
section
variable {K : Fg} {ρ : Rho} {H : Hp}
theorem vr_non {v : V} : VR K ρ H .non v ↔ v = .non := by simp only [VR]
theorem vr_bl {b : Bool} {v : V} : VR K ρ H (.bl b) v ↔ v = .bl b := by simp only [VR]
theorem vr_int {i : Int} {v : V} : VR K ρ H (.int i) v ↔ v = .int i := by simp only [VR]
theorem vr_str {i : Str} {v : V} : VR K ρ H (.str i) v ↔ v = .str i := by simp only [VR]
theorem vr_ty {n : String} {v : V} : VR K ρ H (.ty n) v ↔ v = .ty n := by simp only [VR]
theorem vr_exc {a : Addr} {d : Option Addr} {nm : List Str} {fs : List EV} {v : V} : VR K ρ H (.exc a d nm fs) v ↔ v = .ref a ∧ ∃ vs, VRs K ρ H fs vs ∧ ∀ dd, d = some dd → H dd = some (.xd (nm.zip vs)) := by simp only [VR]
theorem vr_ref {n : Nat} {v : V} : VR K ρ H (.ref n) v ↔ ∃ a, adr ρ n = some a ∧ v = .ref a := by simp only [VR]
theorem vr_tup {xs : List EV} {v : V} : VR K ρ H (.tup xs) v ↔ ∃ a vs, v = .ref a ∧ H a = some (.tup vs) ∧ VRs K ρ H xs vs := by simp only [VR]
theorem vrs_nil {vs : List V} : VRs K ρ H [] vs ↔ vs = [] := by simp only [VRs]
theorem vrs_cons {x : EV} {xs : List EV} {vs : List V} : VRs K ρ H (x :: xs) vs ↔ ∃ v r, vs = v :: r ∧ VR K ρ H x v ∧ VRs K ρ H xs r := by simp only [VRs]
theorem VRs.length : ∀ {xs : List EV} {vs : List V}, VRs K ρ H xs vs → xs.length = vs.length
  | [], vs, h => by rw [vrs_nil] at h; subst h; rfl
  | x :: xs, vs, h => by
    obtain ⟨v, r, rfl, _, h2⟩ := vrs_cons.mp h
    rw [List.length_cons, List.length_cons, VRs.length h2]
theorem VRs.get : ∀ {xs : List EV} {vs : List V} {i : Nat} {x : EV}, VRs K ρ H xs vs → xs[i]? = some x → ∃ v, vs[i]? = some v ∧ VR K ρ H x v
  | [], _, _, _, _, e => by simp at e
  | x :: xs, vs, i, y, h, e => by
    obtain ⟨v, r, rfl, h1, h2⟩ := vrs_cons.mp h
    cases i with
    | zero =>
      simp only [List.getElem?_cons_zero, Option.some.injEq] at e
      subst e
      exact ⟨v, rfl, h1⟩
    | succ i =>
      simp only [List.getElem?_cons_succ] at e ⊢
      exact VRs.get h2 e
theorem VRs.append : ∀ {xs ys : List EV} {vs us : List V}, VRs K ρ H xs vs → VRs K ρ H ys us → VRs K ρ H (xs ++ ys) (vs ++ us)
  | [], ys, vs, us, h, g => by rw [vrs_nil] at h; subst h; exact g
  | x :: xs, ys, vs, us, h, g => by
    obtain ⟨v, r, rfl, h1, h2⟩ := vrs_cons.mp h
    exact vrs_cons.mpr ⟨v, r ++ us, rfl, h1, VRs.append h2 g⟩
theorem VRs.one {x : EV} {v : V} (h : VR K ρ H x v) : VRs K ρ H [x] [v] := vrs_cons.mpr ⟨v, [], rfl, h, vrs_nil.mpr rfl⟩
theorem VRs.set {x : EV} {v : V} (hx : VR K ρ H x v) : ∀ {xs : List EV} {vs : List V} (i : Nat), VRs K ρ H xs vs → VRs K ρ H (xs.set i x) (vs.set i v)
  | [], vs, i, h => by rw [vrs_nil] at h; subst h; exact vrs_nil.mpr rfl
  | y :: xs, vs, i, h => by
    obtain ⟨u, r, rfl, h1, h2⟩ := vrs_cons.mp h
    cases i with
    | zero => exact vrs_cons.mpr ⟨v, r, rfl, hx, h2⟩
    | succ i => exact vrs_cons.mpr ⟨u, r.set i v, rfl, h1, VRs.set hx i h2⟩
theorem VRs.take : ∀ {xs : List EV} {vs : List V} (n : Nat), VRs K ρ H xs vs → VRs K ρ H (xs.take n) (vs.take n)
  | xs, vs, 0, h => by simp only [List.take_zero]; exact vrs_nil.mpr rfl
  | [], vs, n + 1, h => by rw [vrs_nil] at h; subst h; exact vrs_nil.mpr rfl
  | x :: xs, vs, n + 1, h => by
    obtain ⟨v, r, rfl, h1, h2⟩ := vrs_cons.mp h
    exact vrs_cons.mpr ⟨v, r.take n, rfl, h1, VRs.take n h2⟩
theorem VRs.drop : ∀ {xs : List EV} {vs : List V} (n : Nat), VRs K ρ H xs vs → VRs K ρ H (xs.drop n) (vs.drop n)
  | xs, vs, 0, h => h
  | [], vs, n + 1, h => by rw [vrs_nil] at h; subst h; exact vrs_nil.mpr rfl
  | x :: xs, vs, n + 1, h => by
    obtain ⟨v, r, rfl, h1, h2⟩ := vrs_cons.mp h
    exact VRs.drop n h2
theorem VRs.ints : ∀ (ns : List Int), VRs K ρ H (ns.map EV.int) (ns.map V.int)
  | [] => vrs_nil.mpr rfl
  | n :: ns => vrs_cons.mpr ⟨.int n, ns.map V.int, rfl, vr_int.mpr rfl, VRs.ints ns⟩
theorem VRs.of_ints : ∀ {ns : List Int} {vs : List V}, VRs K ρ H (ns.map EV.int) vs → vs = ns.map V.int
  | [], vs, h => vrs_nil.mp h
  | n :: ns, vs, h => by
    obtain ⟨v, r, rfl, h1, h2⟩ := vrs_cons.mp h
    rw [vr_int.mp h1, VRs.of_ints h2]
    rfl
end
structure Gx where
  K : Fg
  ct : Nat → Addr × List Str
def RoL (K : Fg) (H : Hp) (a : Addr) (xs : List V) : Prop :=
  (∃ o, H a = some (.frz o (.lst xs))) ∨
    ∃ (o : Obj) (its : Array Value) (n : Nat), K.lookup a = some o ∧ o.cls = .type "list" ∧ o.dict = none ∧ o.data = .seq its n ∧ its.size ≤ sizeLine ∧ Vals xs its.toList
theorem RoL.sq {K : Fg} {H : Hp} {a : Addr} {xs : List V} (h : RoL K H a xs) : SqL K H a xs := by
  rcases h with ⟨o, h⟩ | h
  · exact .inl (.inr ⟨o, h⟩)
  · exact .inr h
theorem RoL.mono {K : Fg} {ρ ρ' : Rho} {H H' : Hp} (e : Ext0 K ρ ρ' H H') {a : Addr} {xs : List V} (h : RoL K H a xs) : RoL K H' a xs := by
  rcases h with ⟨o, h⟩ | h
  · exact .inl ⟨o, e.frz _ _ _ h⟩
  · exact .inr h
def keyOf : EV → Option Key
  | .int i => some (.inl i)
  | .str x => some (.inr x)
  | _ => none
def keysOf : List EV → Option (List Key)
  | [] => some []
  | x :: xs => match keyOf x, keysOf xs with
    | some k, some ks => some (k :: ks)
    | _, _ => none
def tkeyOf : EV → Option (List Key)
  | .tup xs => keysOf xs
  | _ => none
def KR {κ : Type} (f : EV → Option κ) (R : EV → V → Prop) : List (EV × EV) → List (κ × V) → Prop
  | [], l => l = []
  | p :: ps, l => ∃ k v r, l = (k, v) :: r ∧ f p.1 = some k ∧ R p.2 v ∧ KR f R ps r
def FR (R : EV → V → Prop) : Option EV → Option V → Prop
  | some x, some v => R x v
  | none, none => True
  | _, _ => False
def DR (R : EV → V → Prop) (t : Bool) (kvs : List (EV × EV)) (u : HO) : Prop := match t with
  | false => ∃ l, u = .dK l ∧ KR keyOf R kvs l
  | true => ∃ l, u = .dT l ∧ KR tkeyOf R kvs l
mutual
def keyN : EV → Option NestedKey
  | .int i => some (.num i)
  | .tup xs => (keysN xs).map .tup
  | _ => none
def keysN : List EV → Option (List NestedKey)
  | [] => some []
  | x :: xs => match keyN x, keysN xs with
    | some k, some ks => some (k :: ks)
    | _, _ => none
end
def NdO (a : Addr) (xs : List (NestedKey × Addr × Value)) : HO := .ext fun h => (a == sysModules) = false ∧ xs.length ≤ sizeLine ∧ ∃ (P : Program) (w : World) (o : Obj) (es : Array DictEntry) (ep : _), h.get? a = some o ∧ o.ExactDict ∧ o.data = .dict es ep ∧ es.toList = xs.map (entryOfKey (nestedKind P w)) ∧ (xs.map (·.1)).Nodup
def NdR (R : EV → V → Prop) : List (EV × EV) → List (NestedKey × Addr × Value) → Prop
  | [], ys => ys = []
  | k :: ks, ys => ∃ (n : NestedKey) (b : Addr) (v : Value) (w : V) (r : List (NestedKey × Addr × Value)), ys = (n, b, v) :: r ∧ keyN k.1 = some n ∧ n.depth ≤ 8 ∧ R k.1 (.ref b) ∧ R k.2 w ∧ RelV w v ∧ NdR R ks r
theorem NdR.mono {R R' : EV → V → Prop} (h : ∀ x v, R x v → R' x v) : ∀ {ks : List (EV × EV)} {ys : List (NestedKey × Addr × Value)}, NdR R ks ys → NdR R' ks ys
  | [], _, q => q
  | _ :: _, _, ⟨n, b, v, w, r, e, h1, h2, h3, h4, h5, h6⟩ => ⟨n, b, v, w, r, e, h1, h2, h _ _ h3, h _ _ h4, h5, h6.mono h⟩
def OR (G : Gx) (ρ : Rho) (H : Hp) : EO → Addr → Prop
  | .lst xs, a => ∃ vs, H a = some (.lst vs) ∧ VRs G.K ρ H xs vs
  | .ro xs, a => ∃ vs, RoL G.K H a vs ∧ VRs G.K ρ H xs vs
  | .dic t kvs, a => ∃ u, H a = some u ∧ DR (VR G.K ρ H) t kvs u
  | .lkd t kvs, a => ∃ f u, H a = some (.frz f u) ∧ DR (VR G.K ρ H) t kvs u
  | .nd ks, a => ∃ ys, H a = some (NdO a ys) ∧ NdR (VR G.K ρ H) ks ys
  | .obj c fs, a => ∃ dx l, H a = some (.ins (G.ct c).1 dx l) ∧ fs.length = (G.ct c).2.length ∧ l.length ≤ (fs.filter fun z => z.isSome).length ∧
      (∀ (i : Nat) (x : Option EV), fs[i]? = some x → ∀ m, (G.ct c).2[i]? = some m → FR (VR G.K ρ H) x (l.lookup m)) ∧ ∀ m, m ∉ (G.ct c).2 → l.lookup m = none
def EO.mu : EO → Bool
  | .ro _ => false
  | _ => true
structure HR (G : Gx) (ρ : Rho) (H : Hp) (eh : EH) : Prop where
  tab : LamX.Tabs (tabOf G.ct) H
  len : ρ.length = eh.length
  dis : ∀ (m n : Nat) (a : Addr), ρ[m]? = some (true, a) → ρ[n]? = some (true, a) → m = n
  obj : ∀ (n : Nat) (o : EO), eh[n]? = some o → ∃ a, ρ[n]? = some (o.mu, a) ∧ OR G ρ H o a
theorem KR.mono {κ : Type} {f : EV → Option κ} {R R' : EV → V → Prop} (h : ∀ x v, R x v → R' x v) : ∀ {ps : List (EV × EV)} {l : List (κ × V)}, KR f R ps l → KR f R' ps l
  | [], _, q => q
  | p :: ps, _, ⟨k, v, r, e, h1, h2, h3⟩ => ⟨k, v, r, e, h1, h _ _ h2, KR.mono h h3⟩
theorem FR.mono {R R' : EV → V → Prop} (h : ∀ x v, R x v → R' x v) : ∀ {x : Option EV} {v : Option V}, FR R x v → FR R' x v
  | some _, some _, q => h _ _ q
  | none, none, _ => trivial
  | some _, none, q => q.elim
  | none, some _, q => q.elim
theorem DR.mono {R R' : EV → V → Prop} (h : ∀ x v, R x v → R' x v) : ∀ {t : Bool} {kvs : List (EV × EV)} {u : HO}, DR R t kvs u → DR R' t kvs u
  | false, _, _, ⟨l, e, q⟩ => ⟨l, e, q.mono h⟩
  | true, _, _, ⟨l, e, q⟩ => ⟨l, e, q.mono h⟩
theorem DR.mt {R : EV → V → Prop} : ∀ {t : Bool} {kvs : List (EV × EV)} {u : HO}, DR R t kvs u → L2.Mut (some u)
  | false, _, _, ⟨l, e, q⟩ => by subst e; exact True.intro
  | true, _, _, ⟨l, e, q⟩ => by subst e; exact True.intro
theorem DR.ntup {R : EV → V → Prop} : ∀ {t : Bool} {kvs : List (EV × EV)} {u : HO}, DR R t kvs u → ∀ xs, u ≠ .tup xs
  | false, _, _, ⟨l, e, q⟩, _, z => by subst e; cases z
  | true, _, _, ⟨l, e, q⟩, _, z => by subst e; cases z
theorem DR.nfrz {R : EV → V → Prop} : ∀ {t : Bool} {kvs : List (EV × EV)} {u : HO}, DR R t kvs u → ∀ o v, u ≠ .frz o v
  | false, _, _, ⟨l, e, q⟩, _, _, z => by subst e; cases z
  | true, _, _, ⟨l, e, q⟩, _, _, z => by subst e; cases z
theorem DR.pln {R : EV → V → Prop} : ∀ {t : Bool} {kvs : List (EV × EV)} {u : HO}, DR R t kvs u → NoTb u
  | false, _, _, ⟨l, e, q⟩ => by subst e; exact pln_dK
  | true, _, _, ⟨l, e, q⟩ => by subst e; exact pln_dT
theorem OR.keep {G : Gx} {ρ ρ' : Rho} {H H' : Hp} (e : Ext0 G.K ρ ρ' H H') {o : EO} {a : Addr} (hb : o.mu = true → H' a = H a) (h : OR G ρ H o a) : OR G ρ' H' o a := by
  have m := fun x v => VR.mono0 (K := G.K) (ρ := ρ) (ρ' := ρ') (H := H) (H' := H') e x v
  cases o with
  | lst xs =>
    obtain ⟨vs, h1, h2⟩ := h
    exact ⟨vs, by rw [hb rfl]; exact h1, VRs.mono0 e _ _ h2⟩
  | ro xs =>
    obtain ⟨vs, h1, h2⟩ := h
    exact ⟨vs, h1.mono e, VRs.mono0 e _ _ h2⟩
  | dic t kvs =>
    obtain ⟨u, h1, h2⟩ := h
    exact ⟨u, by rw [hb rfl]; exact h1, h2.mono m⟩
  | lkd t kvs =>
    obtain ⟨f, u, h1, h2⟩ := h
    exact ⟨f, u, by rw [hb rfl]; exact h1, h2.mono m⟩
  | obj c fs =>
    obtain ⟨dx, l, h1, h2, h3, h4, h5⟩ := h
    exact ⟨dx, l, by rw [hb rfl]; exact h1, h2, h3, fun i x hx n hn => (h4 i x hx n hn).mono m, h5⟩
  | nd ks =>
    obtain ⟨ys, h1, h2⟩ := h
    exact ⟨ys, by rw [hb rfl]; exact h1, h2.mono m⟩
theorem ndo_code {a : Addr} {ys : List (NestedKey × Addr × Value)} {c : Addr} {q : Str} : NdO a ys ≠ LamX.CodeO c q := fun z => by
  unfold NdO LamX.CodeO at z
  have e := HO.ext.inj z
  obtain ⟨ob, hob⟩ : ∃ ob : Obj, ob = { cls := .none, data := .fields #[.none, .str q 0] } := ⟨_, rfl⟩
  obtain ⟨h, hh⟩ : ∃ h : Heap, h = { objs := Array.replicate (a + c + 1) ob } := ⟨_, rfl⟩
  have at_ : ∀ x, x < a + c + 1 → h.get? x = some ob := fun x hx => by
    rw [hh, hob]
    unfold Heap.get?
    rw [Array.getElem?_replicate, if_pos hx]
  have p := congrFun e h
  have pc : ∃ (oc : Obj) (vs : Array Value) (t : Tok), h.get? c = some oc ∧ oc.data = .fields vs ∧ vs[1]? = some (.str q t) := ⟨ob, #[.none, .str q 0], 0, at_ c (Nat.lt_succ_of_le (Nat.le_add_left c a)), by rw [hob], rfl⟩
  have pn := Eq.mpr p pc
  obtain ⟨_, _, _, _, o, es, ep, g, _, hd, _⟩ := pn
  rw [at_ a (Nat.lt_succ_of_le (Nat.le_add_right a c))] at g
  obtain rfl := Option.some.inj g
  rw [hob] at hd
  cases hd
theorem pln_nd {a : Addr} {ys : List (NestedKey × Addr × Value)} : NoTb (NdO a ys) := ⟨(fun _ z => by unfold NdO at z; cases z), (fun _ _ z => ndo_code z), (fun _ z => by unfold NdO at z; cases z)⟩
theorem OR.there {G : Gx} {ρ : Rho} {H : Hp} {o : EO} {a : Addr} (hm : o.mu = true) (h : OR G ρ H o a) : ∃ u, H a = some u ∧ ∀ xs, u ≠ .tup xs := by
  cases o with
  | lst xs =>
    obtain ⟨vs, h1, _⟩ := h
    exact ⟨_, h1, fun _ z => by cases z⟩
  | ro xs => cases hm
  | dic t kvs =>
    obtain ⟨u, h1, h2⟩ := h
    exact ⟨u, h1, h2.ntup⟩
  | lkd t kvs =>
    obtain ⟨f, u, h1, h2⟩ := h
    exact ⟨_, h1, fun _ z => by cases z⟩
  | obj c fs =>
    obtain ⟨dx, l, h1, _⟩ := h
    exact ⟨_, h1, fun _ z => by cases z⟩
  | nd ks =>
    obtain ⟨ys, h1, _⟩ := h
    exact ⟨_, h1, fun _ z => by unfold NdO at z; cases z⟩
theorem OR.pln {G : Gx} {ρ : Rho} {H : Hp} {o : EO} {a : Addr} (hm : o.mu = true) (h : OR G ρ H o a) : ∃ u, H a = some u ∧ NoTb u := by
  cases o with
  | lst xs =>
    obtain ⟨vs, h1, _⟩ := h
    exact ⟨_, h1, pln_lst⟩
  | ro xs => cases hm
  | dic t kvs =>
    obtain ⟨u, h1, h2⟩ := h
    exact ⟨u, h1, h2.pln⟩
  | lkd t kvs =>
    obtain ⟨f, u, h1, h2⟩ := h
    exact ⟨_, h1, pln_frz⟩
  | obj c fs =>
    obtain ⟨dx, l, h1, _⟩ := h
    exact ⟨_, h1, pln_ins⟩
  | nd ks =>
    obtain ⟨ys, h1, _⟩ := h
    exact ⟨_, h1, pln_nd⟩
theorem Ext.alloc {K : Fg} {ρ : Rho} {H : Hp} {p : Addr} (u : HO) (hp : H p = none) : Ext K ρ (ρ ++ [(true, p)]) H (upd H p u) where
  pre := ⟨[(true, p)], rfl⟩
  tup := fun a xs h => by rw [upd_ne (ne_of_none h hp)]; exact h
  frz := fun a o v h => by rw [upd_ne (ne_of_none h hp)]; exact h
  xd := fun a fs h => by rw [upd_ne (ne_of_none h hp)]; exact h
  new := fun a h => by
    rcases List.mem_append.mp h with h | h
    · exact .inl h
    · have := List.mem_singleton.mp h
      cases this
      exact .inr fun o ho => by rw [hp] at ho; cases ho
  rest := fun a o h _ _ => by rw [upd_ne (ne_of_none h hp)]; exact h
theorem Ext.side {K : Fg} {ρ : Rho} {H : Hp} {p : Addr} (u : HO) (hp : H p = none) : Ext K ρ ρ H (upd H p u) where
  pre := ⟨[], by simp⟩
  tup := fun a xs h => by rw [upd_ne (ne_of_none h hp)]; exact h
  frz := fun a o v h => by rw [upd_ne (ne_of_none h hp)]; exact h
  xd := fun a fs h => by rw [upd_ne (ne_of_none h hp)]; exact h
  new := fun a h => .inl h
  rest := fun a o h _ _ => by rw [upd_ne (ne_of_none h hp)]; exact h
theorem Ext.write {K : Fg} {ρ : Rho} {H : Hp} {n : Nat} {p : Addr} {u0 : HO} (u : HO) (hn : ρ[n]? = some (true, p)) (h0 : H p = some u0) (ht : ∀ xs, u0 ≠ .tup xs) (hf : ∀ o v, u0 ≠ .frz o v) (hl : NoTb u0) : Ext K ρ ρ H (upd H p u) where
  pre := ⟨[], by simp⟩
  tup := fun a xs h => by
    rw [upd_ne]
    · exact h
    · intro e
      subst e
      rw [h0] at h
      cases h
      exact ht _ rfl
  frz := fun a o v h => by
    rw [upd_ne]
    · exact h
    · intro e
      subst e
      rw [h0] at h
      cases h
      exact hf _ _ rfl
  xd := fun a fs h => by
    rw [upd_ne]
    · exact h
    · intro e
      subst e
      rw [h0] at h
      cases h
      exact hl.2.2 _ rfl
  new := fun a h => .inl h
  rest := fun a o h _ hx => by
    rw [upd_ne]
    · exact h
    · intro e
      subst e
      exact hx (List.mem_of_getElem? hn)
theorem Ext.mut {K : Fg} {ρ ρ' : Rho} {H H' : Hp} {p : Addr} {u : HO} (e : Ext K ρ ρ' H H') (hp : H p = none) : Ext K ρ ρ' H (upd H' p u) where
  pre := e.pre
  tup := fun a xs h => by rw [upd_ne (ne_of_none h hp)]; exact e.tup _ _ h
  frz := fun a o v h => by rw [upd_ne (ne_of_none h hp)]; exact e.frz _ _ _ h
  xd := fun a fs h => by rw [upd_ne (ne_of_none h hp)]; exact e.xd _ _ h
  new := e.new
  rest := fun a o h ht hx => by rw [upd_ne (ne_of_none h hp)]; exact e.rest _ _ h ht hx
theorem Ext.push {K : Fg} {ρ ρ' : Rho} {H H' : Hp} {p : Addr} (e : Ext K ρ ρ' H H') (hp : H p = none) : Ext K ρ (ρ' ++ [(true, p)]) H H' where
  pre := by
    obtain ⟨t, ht⟩ := e.pre
    exact ⟨t ++ [(true, p)], by rw [ht, List.append_assoc]⟩
  tup := e.tup
  frz := e.frz
  xd := e.xd
  new := fun a h => by
    rcases List.mem_append.mp h with h | h
    · exact e.new a h
    · have := List.mem_singleton.mp h
      cases this
      exact .inr fun o ho => by rw [hp] at ho; cases ho
  rest := e.rest
theorem HR.ext {G : Gx} {ρ : Rho} {H : Hp} {eh : EH} (h : HR G ρ H eh) {H' : Hp} (e : Ext0 G.K ρ ρ H H') (hk : ∀ a, (true, a) ∈ ρ → H' a = H a) (ht : LamX.Tabs (tabOf G.ct) H') : HR G ρ H' eh where
  tab := ht
  len := h.len
  dis := h.dis
  obj := fun n o ho => by
    obtain ⟨a, ha, hO⟩ := h.obj n o ho
    refine ⟨a, ha, hO.keep e fun hm => hk a ?_⟩
    rw [hm] at ha
    exact List.mem_of_getElem? ha
theorem HR.at {G : Gx} {ρ : Rho} {H : Hp} {eh : EH} (h : HR G ρ H eh) {a : Addr} (hm : (true, a) ∈ ρ) : ∃ (n : Nat) (o : EO), ρ[n]? = some (true, a) ∧ eh[n]? = some o ∧ o.mu = true ∧ OR G ρ H o a := by
  obtain ⟨n, hn⟩ := List.mem_iff_getElem?.mp hm
  have hl : n < eh.length := by
    rw [← h.len]
    exact (List.getElem?_eq_some_iff.mp hn).1
  obtain ⟨a', ha, hO⟩ := h.obj n _ (List.getElem?_eq_getElem hl)
  rw [hn] at ha
  simp only [Option.some.injEq, Prod.mk.injEq] at ha
  obtain ⟨h1, rfl⟩ := ha
  exact ⟨n, _, hn, List.getElem?_eq_getElem hl, h1.symm, hO⟩
theorem HR.fresh {G : Gx} {ρ : Rho} {H : Hp} {eh : EH} (h : HR G ρ H eh) {p : Addr} (hp : H p = none) : (true, p) ∉ ρ := fun hm => by
  obtain ⟨n, o, _, _, h1, h2⟩ := h.at hm
  obtain ⟨u, hu, _⟩ := h2.there h1
  rw [hp] at hu
  cases hu
theorem HR.side {G : Gx} {ρ : Rho} {H : Hp} {eh : EH} (h : HR G ρ H eh) {p : Addr} (u : HO) (hp : H p = none) : HR G ρ (upd H p u) eh :=
  h.ext (Ext.side u hp).toExt0 (fun a ha => upd_ne fun e => h.fresh hp (e ▸ ha)) (tabs_upd h.tab fun v hv => by rw [hp] at hv; cases hv)
theorem HR.push {G : Gx} {ρ : Rho} {H : Hp} {eh : EH} (h : HR G ρ H eh) {p : Addr} {o : EO} (hp : (true, p) ∉ ρ) (hm : o.mu = true) (ho : OR G (ρ ++ [(true, p)]) H o p) : HR G (ρ ++ [(true, p)]) H (eh ++ [o]) where
  tab := h.tab
  len := by simp [h.len]
  dis := fun m n a e1 e2 => by
    have key : ∀ (k : Nat), (ρ ++ [(true, p)])[k]? = some (true, a) → (ρ[k]? = some (true, a) ∧ a ≠ p) ∨ (k = ρ.length ∧ a = p) := by
      intro k hk
      have hl : k < (ρ ++ [(true, p)]).length := (List.getElem?_eq_some_iff.mp hk).1
      simp only [List.length_append, List.length_singleton] at hl
      by_cases hk2 : k < ρ.length
      · rw [List.getElem?_append_left hk2] at hk
        exact .inl ⟨hk, fun e => hp (e ▸ List.mem_of_getElem? hk)⟩
      · have : k = ρ.length := by omega
        subst this
        rw [List.getElem?_append_right (Nat.le_refl _), Nat.sub_self] at hk
        simp only [List.getElem?_cons_zero, Option.some.injEq, Prod.mk.injEq, true_and] at hk
        exact .inr ⟨rfl, hk.symm⟩
    rcases key m e1 with ⟨a3, a4⟩ | ⟨a1, a2⟩
    · rcases key n e2 with ⟨b3, b4⟩ | ⟨b1, b2⟩
      · exact h.dis m n a a3 b3
      · exact absurd b2 a4
    · rcases key n e2 with ⟨b3, b4⟩ | ⟨b1, b2⟩
      · exact absurd a2 b4
      · rw [a1, b1]
  obj := fun n z hz => by
    have hl : n < (eh ++ [o]).length := (List.getElem?_eq_some_iff.mp hz).1
    simp only [List.length_append, List.length_singleton] at hl
    by_cases hk2 : n < eh.length
    · rw [List.getElem?_append_left hk2] at hz
      obtain ⟨a, ha, hO⟩ := h.obj n z hz
      have e : Ext0 G.K ρ (ρ ++ [(true, p)]) H H := ⟨⟨[(true, p)], rfl⟩, fun _ _ q => q, fun _ _ _ q => q, fun _ _ q => q⟩
      exact ⟨a, e.at ha, hO.keep e fun _ => rfl⟩
    · have : n = eh.length := by omega
      subst this
      rw [List.getElem?_append_right (Nat.le_refl _), Nat.sub_self] at hz
      simp only [List.getElem?_cons_zero, Option.some.injEq] at hz
      subst hz
      refine ⟨p, ?_, ho⟩
      rw [List.getElem?_append_right (by rw [h.len]; exact Nat.le_refl _), h.len, Nat.sub_self, hm]
      rfl
theorem HR.alloc {G : Gx} {ρ : Rho} {H : Hp} {eh : EH} (h : HR G ρ H eh) {p : Addr} {u : HO} {o : EO} (hp : H p = none) (hm : o.mu = true) (ho : OR G (ρ ++ [(true, p)]) (upd H p u) o p) : HR G (ρ ++ [(true, p)]) (upd H p u) (eh ++ [o]) :=
  (h.side u hp).push (h.fresh hp) hm ho
theorem HR.write {G : Gx} {ρ : Rho} {H : Hp} {eh : EH} (h : HR G ρ H eh) {n : Nat} {p : Addr} {o' : EO} {u : HO} (hn : ρ[n]? = some (true, p)) (hm : o'.mu = true) (e : Ext G.K ρ ρ H (upd H p u))
    (ho : OR G ρ (upd H p u) o' p) : HR G ρ (upd H p u) (eh.set n o') where
  tab := tabs_upd h.tab fun v hv => by
    obtain ⟨n', o, h1, h2, h3, h4⟩ := h.at (List.mem_of_getElem? hn)
    obtain ⟨u', e1, e2⟩ := h4.pln h3
    rw [hv] at e1
    cases e1
    exact e2
  len := by simp [h.len]
  dis := h.dis
  obj := fun j z hz => by
    by_cases hj : n = j
    · subst hj
      have hl : n < eh.length := by
        have := (List.getElem?_eq_some_iff.mp hz).1
        simpa using this
      rw [List.getElem?_set_self hl] at hz
      cases hz
      exact ⟨p, by rw [hm]; exact hn, ho⟩
    · rw [List.getElem?_set_ne hj] at hz
      obtain ⟨a, ha, hO⟩ := h.obj j z hz
      refine ⟨a, ha, hO.keep e.toExt0 fun hmz => upd_ne fun ea => hj ?_⟩
      subst ea
      rw [hmz] at ha
      exact h.dis n j a hn ha
def SR (K : Fg) (ρ : Rho) (H : Hp) (es : ES) (σ : L2.St) : Prop := σ.length = es.length ∧ ∀ (i : Nat) (v : EV), es[i]? = some (some v) → ∃ u, σ[i]? = some (some u) ∧ VR K ρ H v u
structure Rel (G : Gx) (ρ : Rho) (σ : L2.St) (H : Hp) (es : ES) (eh : EH) : Prop where
  sl : SR G.K ρ H es σ
  hr : HR G ρ H eh
theorem SR.mono {K : Fg} {ρ ρ' : Rho} {H H' : Hp} {es : ES} {σ : L2.St} (e : Ext K ρ ρ' H H') (h : SR K ρ H es σ) : SR K ρ' H' es σ :=
  ⟨h.1, fun i v hv => by
    obtain ⟨u, h1, h2⟩ := h.2 i v hv
    exact ⟨u, h1, VR.mono e _ _ h2⟩⟩
theorem SR.set {K : Fg} {ρ : Rho} {H : Hp} {es : ES} {σ : L2.St} {v : EV} {u : V} (h : SR K ρ H es σ) (i : Nat) (hv : VR K ρ H v u) : SR K ρ H (es.set i (some v)) (σ.set i (some u)) := by
  refine ⟨by simp [h.1], fun j w hw => ?_⟩
  by_cases hj : i = j
  · subst hj
    have hi : i < es.length := by
      have := (List.getElem?_eq_some_iff.mp hw).1
      simpa using this
    rw [List.getElem?_set_self hi] at hw
    cases hw
    exact ⟨u, List.getElem?_set_self (by rw [h.1]; exact hi), hv⟩
  · rw [List.getElem?_set_ne hj] at hw ⊢
    exact h.2 j w hw
theorem SR.unset {K : Fg} {ρ : Rho} {H : Hp} {es : ES} {σ : L2.St} (h : SR K ρ H es σ) (i : Nat) : SR K ρ H (es.set i none) (σ.set i none) := by
  refine ⟨by simp [h.1], fun j w hw => ?_⟩
  by_cases hj : i = j
  · subst hj
    have hi : i < es.length := by
      have := (List.getElem?_eq_some_iff.mp hw).1
      simpa using this
    rw [List.getElem?_set_self hi] at hw
    cases hw
  · rw [List.getElem?_set_ne hj] at hw ⊢
    exact h.2 j w hw
def wip (es : ES) : List Nat → ES
  | [] => es
  | v :: vs => (wip es vs).set v none
theorem SR.wip {K : Fg} {ρ : Rho} {H : Hp} {es : ES} {σ : L2.St} (h : SR K ρ H es σ) : ∀ vs : List Nat, SR K ρ H (EE.wip es vs) (L2.wipe σ vs)
  | [] => h
  | v :: vs => (SR.wip h vs).unset v
theorem Rel.ext {G : Gx} {ρ ρ' : Rho} {σ : L2.St} {H H' : Hp} {es : ES} {eh eh' : EH} (r : Rel G ρ σ H es eh) (e : Ext G.K ρ ρ' H H') (h : HR G ρ' H' eh') : Rel G ρ' σ H' es eh' := ⟨r.sl.mono e, h⟩
end EE
set_option Elab.async false
set_option linter.all false
set_option maxRecDepth 100000
set_option maxHeartbeats 1000000
namespace EE
open PySem PySem.Spec PyProof.Rows L2
structure Exn where
  c : Nat
  fs : List EV
  deriving Inhabited
inductive Res (α : Type) where
  | ok (v : α) (h : EH) | er (x : Exn) (h : EH) | no
def Res.bind {α β : Type} (r : Res α) (k : α → EH → Res β) : Res β := match r with
  | .ok v h => k v h
  | .er x h => .er x h
  | .no => .no
@[simp] theorem bind_ok {α β : Type} (v : α) (h : EH) (k : α → EH → Res β) : (Res.ok v h).bind k = k v h := rfl
@[simp] theorem bind_er {α β : Type} (x : Exn) (h : EH) (k : α → EH → Res β) : (Res.er x h).bind k = .er x h := rfl
@[simp] theorem bind_no {α β : Type} (k : α → EH → Res β) : (Res.no).bind k = .no := rfl
inductive Flw where
  | nx (es : ES) | rt (v : EV) | bk (es : ES) | ct (es : ES)
inductive VF where
  | nx (σ : L2.St) | rt (v : V) | bk (σ : L2.St) | ct (σ : L2.St)
abbrev DE := ES → EH → Res EV
abbrev DT := ES → EH → Res Bool
abbrev DA := ES → EH → Res (List EV)
abbrev DS := ES → EH → Res Flw
abbrev D2 := EV → EV → EH → Res EV
abbrev D1 := EV → EH → Res EV
abbrev DL := List EV → EH → Res EV
def XR (G : Gx) (ρ : Rho) (H : Hp) (x : Exn) (c : Value) (own : Option Addr) : Prop :=
  c = .ref (G.ct x.c).1 ∧ match x.fs with
    | [] => own = none
    | y :: r => ∃ d vs, own = some d ∧ H d = some (.xd ((G.ct x.c).2.zip vs)) ∧ VRs G.K ρ H (y :: r) vs ∧ (G.ct x.c).2.length = (y :: r).length
def wr {α β : Type} (G : Gx) (R : Rho → Hp → α → β → Prop) (ρ : Rho) (H : Hp) (r : Res α) (Q : β → Hp → Prop) (E : XK) : Prop := match r with
  | .ok v h => ∀ ρ' H' u, Ext G.K ρ ρ' H H' → HR G ρ' H' h → R ρ' H' v u → Q u H'
  | .er x h => ∀ ρ' H' c own, Ext G.K ρ ρ' H H' → HR G ρ' H' h → XR G ρ' H' x c own → E c own H'
  | .no => False
theorem wr.mono {α β : Type} {G : Gx} {R : Rho → Hp → α → β → Prop} {ρ ρ1 : Rho} {H H1 : Hp} {r : Res α} {Q : β → Hp → Prop} {E : XK} (e : Ext G.K ρ ρ1 H H1) (h : wr G R ρ H r Q E) : wr G R ρ1 H1 r Q E := by
  cases r with
  | ok v h' => exact fun ρ' H' u e' hr q => h ρ' H' u (e.trans e') hr q
  | er x h' => exact fun ρ' H' c own e' hr q => h ρ' H' c own (e.trans e') hr q
  | no => exact h
def Sound {α β : Type} (G : Gx) (E : XK) (R : Rho → Hp → α → β → Prop) (t : L2.St → Hp → (β → Hp → Prop) → Prop) (d : ES → EH → Res α) : Prop :=
  ∀ ρ σ H es eh Q, Rel G ρ σ H es eh → wr G R ρ H (d es eh) Q E → t σ H Q
theorem Sound.bind {α β : Type} {G : Gx} {E : XK} {R : Rho → Hp → α → β → Prop} {t : L2.St → Hp → (β → Hp → Prop) → Prop} {d : ES → EH → Res α} (h : Sound G E R t d) {ρ : Rho} {σ : L2.St} {H : Hp} {es : ES} {eh : EH} (rel : Rel G ρ σ H es eh)
    {γ δ : Type} {R2 : Rho → Hp → γ → δ → Prop} {k : α → EH → Res γ} {Q2 : δ → Hp → Prop} (hw : wr G R2 ρ H ((d es eh).bind k) Q2 E) {Kt : β → Hp → Prop}
    (hk : ∀ ρ1 H1 v eh1 u, Ext G.K ρ ρ1 H H1 → Rel G ρ1 σ H1 es eh1 → R ρ1 H1 v u → wr G R2 ρ1 H1 (k v eh1) Q2 E → Kt u H1) : t σ H Kt := by
  refine h ρ σ H es eh Kt rel ?_
  cases q : d es eh with
  | ok v h' =>
    rw [q] at hw
    exact fun ρ' H' u e hr r => hk ρ' H' v h' u e (rel.ext e hr) r (hw.mono e)
  | er x h' =>
    rw [q] at hw
    exact hw
  | no =>
    rw [q] at hw
    exact hw
theorem Sound.bind0 {α β : Type} {G : Gx} {E : XK} {R : Rho → Hp → α → β → Prop} {t : L2.St → Hp → (β → Hp → Prop) → Prop} {d : ES → EH → Res α} (h : Sound G E R t d) {ρ0 ρ : Rho} {σ : L2.St} {H0 H : Hp} {es : ES} {eh : EH} (rel : Rel G ρ σ H es eh) (e0 : Ext G.K ρ0 ρ H0 H)
    {γ δ : Type} {R2 : Rho → Hp → γ → δ → Prop} {k : α → EH → Res γ} {Q2 : δ → Hp → Prop} (hw : wr G R2 ρ0 H0 ((d es eh).bind k) Q2 E) {Kt : β → Hp → Prop}
    (hk : ∀ ρ1 H1 v eh1 u, Ext G.K ρ ρ1 H H1 → Rel G ρ1 σ H1 es eh1 → R ρ1 H1 v u → wr G R2 ρ0 H0 (k v eh1) Q2 E → Kt u H1) : t σ H Kt := by
  refine h ρ σ H es eh Kt rel ?_
  cases q : d es eh with
  | ok v h' =>
    rw [q] at hw
    exact fun ρ' H' u e hr r => hk ρ' H' v h' u e (rel.ext e hr) r hw
  | er x h' =>
    rw [q] at hw
    exact fun ρ' H' c own e' hr q => hw ρ' H' c own (e0.trans e') hr q
  | no =>
    rw [q] at hw
    exact hw
abbrev RB : Rho → Hp → Bool → Bool → Prop := fun _ _ a b => a = b
abbrev SndE (G : Gx) (E : XK) (t : TE) (d : DE) : Prop := Sound G E (VR G.K) t d
abbrev SndT (G : Gx) (E : XK) (t : TT) (d : DT) : Prop := Sound G E RB t d
abbrev SndA (G : Gx) (E : XK) (t : TA) (d : DA) : Prop := Sound G E (VRs G.K) t d
def RF (G : Gx) (ρ : Rho) (H : Hp) : Flw → VF → Prop
  | .nx es, .nx σ => SR G.K ρ H es σ
  | .rt v, .rt u => VR G.K ρ H v u
  | .bk es, .bk σ => SR G.K ρ H es σ
  | .ct es, .ct σ => SR G.K ρ H es σ
  | _, _ => False
def qD (D : Ends) : VF → Hp → Prop
  | .nx σ, H => D.nx σ H
  | .rt v, H => D.rt v H
  | .bk σ, H => D.bk σ H
  | .ct σ, H => D.ct σ H
def SndS (G : Gx) (E : XK) (t : TS) (d : DS) : Prop := ∀ ρ σ H es eh D, Rel G ρ σ H es eh → wr G (RF G) ρ H (d es eh) (qD D) E → t D σ H
def Snd2 (G : Gx) (E : XK) (r : R2) (f : D2) : Prop := ∀ ρ H eh x y a b Q, HR G ρ H eh → VR G.K ρ H x a → VR G.K ρ H y b → wr G (VR G.K) ρ H (f x y eh) Q E → r a b H Q
def Snd1 (G : Gx) (E : XK) (r : V → Hp → VK → Prop) (f : D1) : Prop := ∀ ρ H eh x a Q, HR G ρ H eh → VR G.K ρ H x a → wr G (VR G.K) ρ H (f x eh) Q E → r a H Q
def SndL (G : Gx) (E : XK) (r : List V → Hp → VK → Prop) (f : DL) : Prop := ∀ ρ H eh xs as Q, HR G ρ H eh → VRs G.K ρ H xs as → wr G (VR G.K) ρ H (f xs eh) Q E → r as H Q
def SndM (G : Gx) (E : XK) (r : V → List V → Hp → VK → Prop) (f : EV → DL) : Prop := ∀ ρ H eh x a xs as Q, HR G ρ H eh → VR G.K ρ H x a → VRs G.K ρ H xs as → wr G (VR G.K) ρ H (f x xs eh) Q E → r a as H Q
def Res.orElse {α : Type} (r : Res α) (k : Unit → Res α) : Res α := match r with
  | .no => k ()
  | z => z
def d2or (f g : D2) : D2 := fun x y h => (f x y h).orElse fun _ => g x y h
def dLor (f g : DL) : DL := fun x h => (f x h).orElse fun _ => g x h
def dMor (f g : EV → DL) : EV → DL := fun x xs h => (f x xs h).orElse fun _ => g x xs h
theorem wr_or {α β : Type} {G : Gx} {R : Rho → Hp → α → β → Prop} {ρ : Rho} {H : Hp} {r : Res α} {k : Unit → Res α} {Q : β → Hp → Prop} {E : XK} (h : wr G R ρ H (r.orElse k) Q E) : wr G R ρ H r Q E ∨ wr G R ρ H (k ()) Q E := by
  cases r with
  | ok v h' => exact .inl h
  | er x h' => exact .inl h
  | no => exact .inr h
section
variable (X : Cx) (ct : Nat → Addr × List Str) (E : XK)
abbrev Cx.g (X : Cx) (ct : Nat → Addr × List Str) : Gx := ⟨X.K, ct⟩
def PEd (e : Expr) (d : DE) : Prop := ∃ t, PE X e t ∧ SndE ⟨X.K, ct⟩ E t d
def PTd (e : Expr) (d : DT) : Prop := ∃ t, PT X e t ∧ SndT ⟨X.K, ct⟩ E t d
def PWd (e : Expr) (d : DT) : Prop := ∃ t, PW X e t ∧ SndT ⟨X.K, ct⟩ E t d
def PAd (es : List Expr) (d : DA) : Prop := ∃ t, PA X es t ∧ SndA ⟨X.K, ct⟩ E t d
def PSd (s : Stmt) (d : DS) : Prop := ∃ t, PS X s t ∧ SndS ⟨X.K, ct⟩ E t d
def PSsd (s : List Stmt) (d : DS) : Prop := ∃ t, PSs X s t ∧ SndS ⟨X.K, ct⟩ E t d
def Opd (f : Value → Value → Sem Value) (d : D2) : Prop := ∃ r, OpR X f r ∧ Snd2 ⟨X.K, ct⟩ E r d
def Ixd (d : D2) : Prop := ∃ r, IxR X r ∧ Snd2 ⟨X.K, ct⟩ E r d
def Und (f : Value → Sem Value) (d : D1) : Prop := ∃ r, UnR X f r ∧ Snd1 ⟨X.K, ct⟩ E r d
def Cld (f : Value) (d : DL) : Prop := ∃ r, CallR X f r ∧ SndL ⟨X.K, ct⟩ E r d
def Mtd (id : String) (d : EV → DL) : Prop := ∃ r, MtR X id r ∧ SndM ⟨X.K, ct⟩ E r d
end
def dVar (i : Nat) : DE := fun es h => match es[i]? with
  | some (some v) => .ok v h
  | _ => .no
def dC (v : EV) : DE := fun _ h => .ok v h
def dOp (f : D2) (a b : DE) : DE := fun es h => (a es h).bind fun x h1 => (b es h1).bind fun y h2 => f x y h2
def dUn (f : D1) (a : DE) : DE := fun es h => (a es h).bind fun x h1 => f x h1
def dNil : DA := fun _ h => .ok [] h
def dCons (a : DE) (r : DA) : DA := fun es h => (a es h).bind fun x h1 => (r es h1).bind fun xs h2 => .ok (x :: xs) h2
def dCB (f : DL) (a : DA) : DE := fun es h => (a es h).bind fun xs h1 => f xs h1
def dTup (a : DA) : DE := fun es h => (a es h).bind fun xs h1 => if xs.length ≤ 100000 then .ok (.tup xs) h1 else .no
def dLst (a : DA) : DE := fun es h => (a es h).bind fun xs h1 => if xs.length ≤ 100000 then .ok (.ref h1.length) (h1 ++ [.lst xs]) else .no
def dB (a : DE) : DT := fun es h => (a es h).bind fun x h1 => match x with
  | .bl b => .ok b h1
  | _ => .no
def dAnd (a b : DT) : DT := fun es h => (a es h).bind fun c h1 => if c = true then b es h1 else .ok false h1
def dOr (a b : DT) : DT := fun es h => (a es h).bind fun c h1 => if c = true then .ok true h1 else b es h1
def dNot (a : DT) : DT := fun es h => (a es h).bind fun c h1 => .ok (!c) h1
def dAndV (a b : DE) : DE := fun es h => (a es h).bind fun x h1 => match x with
  | .bl c => if c = true then b es h1 else .ok (.bl false) h1
  | _ => .no
def dOrV (a b : DE) : DE := fun es h => (a es h).bind fun x h1 => match x with
  | .bl c => if c = true then .ok (.bl true) h1 else b es h1
  | _ => .no
def dNotV (a : DE) : DE := fun es h => (a es h).bind fun x h1 => match x with
  | .bl c => .ok (.bl (!c)) h1
  | _ => .no
def dIf (t : DT) (a b : DE) : DE := fun es h => (t es h).bind fun c h1 => if c = true then a es h1 else b es h1
section
variable {X : Cx} {ct : Nat → Addr × List Str} {E : XK} {G : Gx}
theorem sz5 {n : Nat} (h : n ≤ 100000) : n ≤ sizeLine := Nat.le_trans h (by decide)
theorem snd_var {i : Nat} : SndE G E (tVar i) (dVar i) := fun ρ σ H es eh Q rel h => by
  unfold dVar at h
  split at h
  · rename_i v hv
    obtain ⟨u, h1, h2⟩ := rel.sl.2 i v hv
    exact ⟨u, h1, h ρ H u (Ext.refl _ _ _) rel.hr h2⟩
  · exact h.elim
theorem snd_c {v : EV} {u : V} (hv : ∀ ρ H, VR G.K ρ H v u) : SndE G E (tC u) (dC v) := fun ρ σ H es eh Q rel h => h ρ H u (Ext.refl _ _ _) rel.hr (hv ρ H)
theorem snd_op {r : R2} {f : D2} {ta tb : TE} {a b : DE} (hr : Snd2 G E r f) (ha : SndE G E ta a) (hb : SndE G E tb b) : SndE G E (tOp r ta tb) (dOp f a b) := fun ρ σ H es eh Q rel h => by
  refine ha.bind rel h fun ρ1 H1 x eh1 u e1 rel1 v1 h1 => ?_
  refine hb.bind rel1 h1 fun ρ2 H2 y eh2 w e2 rel2 v2 h2 => ?_
  exact hr ρ2 H2 eh2 x y u w Q rel2.hr (v1.mono e2) v2 h2
theorem snd_un {r : V → Hp → VK → Prop} {f : D1} {ta : TE} {a : DE} (hr : Snd1 G E r f) (ha : SndE G E ta a) : SndE G E (tUn r ta) (dUn f a) := fun ρ σ H es eh Q rel h => by
  refine ha.bind rel h fun ρ1 H1 x eh1 u e1 rel1 v1 h1 => ?_
  exact hr ρ1 H1 eh1 x u Q rel1.hr v1 h1
theorem snd_nil : SndA G E tNil dNil := fun ρ σ H es eh Q rel h => h ρ H [] (Ext.refl _ _ _) rel.hr (vrs_nil.mpr rfl)
theorem snd_cons {ta : TE} {tr : TA} {a : DE} {r : DA} (ha : SndE G E ta a) (hr : SndA G E tr r) : SndA G E (tCons ta tr) (dCons a r) := fun ρ σ H es eh Q rel h => by
  refine ha.bind rel h fun ρ1 H1 x eh1 u e1 rel1 v1 h1 => ?_
  refine hr.bind rel1 h1 fun ρ2 H2 xs eh2 us e2 rel2 v2 h2 => ?_
  exact h2 ρ2 H2 (u :: us) (Ext.refl _ _ _) rel2.hr (vrs_cons.mpr ⟨u, us, rfl, v1.mono e2, v2⟩)
theorem snd_cb {r : List V → Hp → VK → Prop} {f : DL} {ta : TA} {a : DA} (hr : SndL G E r f) (ha : SndA G E ta a) : SndE G E (tCB r ta) (dCB f a) := fun ρ σ H es eh Q rel h => by
  refine ha.bind rel h fun ρ1 H1 x eh1 u e1 rel1 v1 h1 => ?_
  exact hr ρ1 H1 eh1 x u Q rel1.hr v1 h1
theorem snd_tup {ta : TA} {a : DA} (ha : SndA G E ta a) : SndE G E (tTup ta) (dTup a) := fun ρ σ H es eh Q rel h => by
  refine ha.bind rel h fun ρ1 H1 xs eh1 us e1 rel1 v1 h1 => ?_
  split at h1
  · rename_i hl
    refine ⟨by rw [← v1.length]; exact sz5 hl, fun p hp => ?_⟩
    exact h1 ρ1 _ _ (Ext.side _ hp) (rel1.hr.side _ hp) (vr_tup.mpr ⟨p, us, rfl, upd_same, VRs.mono (Ext.side _ hp) _ _ v1⟩)
  · exact h1.elim
theorem last_get {ρ : Rho} {p : Addr} {n : Nat} (h : ρ.length = n) : adr (ρ ++ [(true, p)]) n = some p := by
  unfold adr
  subst h
  rw [List.getElem?_append_right (Nat.le_refl _), Nat.sub_self]
  rfl
theorem new_lst {ρ : Rho} {H : Hp} {eh : EH} {xs : List EV} {us : List V} {Q : VK} (hr : HR G ρ H eh) (v : VRs G.K ρ H xs us) (h : wr G (VR G.K) ρ H (.ok (.ref eh.length) (eh ++ [.lst xs])) Q E) : ∀ p, H p = none → Q (.ref p) (upd H p (.lst us)) := fun p hp => by
  refine h (ρ ++ [(true, p)]) _ _ (Ext.alloc _ hp) (hr.alloc hp rfl ⟨us, upd_same, VRs.mono (Ext.alloc _ hp) _ _ v⟩) (vr_ref.mpr ⟨p, last_get hr.len, rfl⟩)
theorem snd_lst {ta : TA} {a : DA} (ha : SndA G E ta a) : SndE G E (tLst ta) (dLst a) := fun ρ σ H es eh Q rel h => by
  refine ha.bind rel h fun ρ1 H1 xs eh1 us e1 rel1 v1 h1 => ?_
  split at h1
  · rename_i hl
    exact ⟨by rw [← v1.length]; exact sz5 hl, new_lst rel1.hr v1 h1⟩
  · exact h1.elim
theorem snd_B {ta : TE} {a : DE} (ha : SndE G E ta a) : SndT G E (tB ta) (dB a) := fun ρ σ H es eh Q rel h => by
  refine ha.bind rel h fun ρ1 H1 x eh1 u e1 rel1 v1 h1 => ?_
  cases x with
  | bl b => exact ⟨b, vr_bl.mp v1, h1 ρ1 H1 b (Ext.refl _ _ _) rel1.hr rfl⟩
  | _ => exact h1.elim
theorem snd_and {ta tb : TT} {a b : DT} (ha : SndT G E ta a) (hb : SndT G E tb b) : SndT G E (tAnd ta tb) (dAnd a b) := fun ρ σ H es eh Q rel h => by
  refine ha.bind rel h fun ρ1 H1 x eh1 u e1 rel1 v1 h1 => ?_
  subst v1
  cases x with
  | true => exact iteT (hb ρ1 σ H1 es eh1 Q rel1 h1)
  | false => exact iteF (h1 ρ1 H1 false (Ext.refl _ _ _) rel1.hr rfl)
theorem snd_or {ta tb : TT} {a b : DT} (ha : SndT G E ta a) (hb : SndT G E tb b) : SndT G E (tOr ta tb) (dOr a b) := fun ρ σ H es eh Q rel h => by
  refine ha.bind rel h fun ρ1 H1 x eh1 u e1 rel1 v1 h1 => ?_
  subst v1
  cases x with
  | true => exact iteT (h1 ρ1 H1 true (Ext.refl _ _ _) rel1.hr rfl)
  | false => exact iteF (hb ρ1 σ H1 es eh1 Q rel1 h1)
theorem snd_not {ta : TT} {a : DT} (ha : SndT G E ta a) : SndT G E (tNot ta) (dNot a) := fun ρ σ H es eh Q rel h => by
  refine ha.bind rel h fun ρ1 H1 x eh1 u e1 rel1 v1 h1 => ?_
  subst v1
  exact h1 ρ1 H1 _ (Ext.refl _ _ _) rel1.hr rfl
theorem snd_andV {ta tb : TE} {a b : DE} (ha : SndE G E ta a) (hb : SndE G E tb b) : SndE G E (tAndV ta tb) (dAndV a b) := fun ρ σ H es eh Q rel h => by
  refine ha.bind rel h fun ρ1 H1 x eh1 u e1 rel1 v1 h1 => ?_
  cases x with
  | bl c =>
    refine ⟨c, vr_bl.mp v1, ?_⟩
    cases c with
    | true => exact iteT (hb ρ1 σ H1 es eh1 Q rel1 h1)
    | false => exact iteF (h1 ρ1 H1 _ (Ext.refl _ _ _) rel1.hr (vr_bl.mpr rfl))
  | _ => exact h1.elim
theorem snd_orV {ta tb : TE} {a b : DE} (ha : SndE G E ta a) (hb : SndE G E tb b) : SndE G E (tOrV ta tb) (dOrV a b) := fun ρ σ H es eh Q rel h => by
  refine ha.bind rel h fun ρ1 H1 x eh1 u e1 rel1 v1 h1 => ?_
  cases x with
  | bl c =>
    refine ⟨c, vr_bl.mp v1, ?_⟩
    cases c with
    | true => exact iteT (h1 ρ1 H1 _ (Ext.refl _ _ _) rel1.hr (vr_bl.mpr rfl))
    | false => exact iteF (hb ρ1 σ H1 es eh1 Q rel1 h1)
  | _ => exact h1.elim
theorem snd_notV {ta : TE} {a : DE} (ha : SndE G E ta a) : SndE G E (tNotV ta) (dNotV a) := fun ρ σ H es eh Q rel h => by
  refine ha.bind rel h fun ρ1 H1 x eh1 u e1 rel1 v1 h1 => ?_
  cases x with
  | bl c => exact ⟨c, vr_bl.mp v1, h1 ρ1 H1 _ (Ext.refl _ _ _) rel1.hr (vr_bl.mpr rfl)⟩
  | _ => exact h1.elim
theorem snd_if {tt : TT} {ta tb : TE} {t : DT} {a b : DE} (ht : SndT G E tt t) (ha : SndE G E ta a) (hb : SndE G E tb b) : SndE G E (tIf tt ta tb) (dIf t a b) := fun ρ σ H es eh Q rel h => by
  refine ht.bind rel h fun ρ1 H1 x eh1 u e1 rel1 v1 h1 => ?_
  subst v1
  cases x with
  | true => exact iteT (ha ρ1 σ H1 es eh1 Q rel1 h1)
  | false => exact iteF (hb ρ1 σ H1 es eh1 Q rel1 h1)
theorem xe_var (i : Nat) {x : Str} {pos : Pos} (hN : X.N[i]? = some x := by rfl) (hv : Vis X.env.scope x := by first | exact Or.inl rfl | exact Or.inr (Or.inl rfl) | exact Or.inr (Or.inr rfl)) (hd : (x == ("__debug__" : Str)) = false := by decide)
    (hcd : (x == ("__classdict__" : Str)) = false := by decide) : PEd X ct E (.Name x pos) (dVar i) := ⟨_, pe_var hN hv hd hcd, snd_var⟩
theorem xe_int {i j pos} : PEd X ct E (.Constant (.int i) j pos) (dC (.int i)) := ⟨_, pe_int, snd_c fun _ _ => vr_int.mpr rfl⟩
theorem xe_bl {b j pos} : PEd X ct E (.Constant (.bool b) j pos) (dC (.bl b)) := ⟨_, pe_bl, snd_c fun _ _ => vr_bl.mpr rfl⟩
theorem xe_non {j pos} : PEd X ct E (.Constant .none j pos) (dC .non) := ⟨_, pe_non, snd_c fun _ _ => vr_non.mpr rfl⟩
theorem xe_str {x j pos} : PEd X ct E (.Constant (.str x) j pos) (dC (.str x)) := ⟨_, pe_str, snd_c fun _ _ => vr_str.mpr rfl⟩
theorem xe_globI {x : Str} {pos : Pos} {i : Int} (hg : Gl X x) (hm : ∃ t, X.mg x = some (.int i t)) (hd : (x == ("__debug__" : Str)) = false := by decide) : PEd X ct E (.Name x pos) (dC (.int i)) := by
  obtain ⟨t, hm⟩ := hm
  exact ⟨_, pe_glob (v := .int i) hg hm ⟨t, rfl⟩ hd, snd_c fun _ _ => vr_int.mpr rfl⟩
theorem xe_globS {x : Str} {pos : Pos} {i : Str} (hg : Gl X x) (hm : ∃ t, X.mg x = some (.str i t)) (hd : (x == ("__debug__" : Str)) = false := by decide) : PEd X ct E (.Name x pos) (dC (.str i)) := by
  obtain ⟨t, hm⟩ := hm
  exact ⟨_, pe_glob (v := .str i) hg hm ⟨t, rfl⟩ hd, snd_c fun _ _ => vr_str.mpr rfl⟩
variable {a b c : Expr} {es rest : List Expr} {pos : Pos} {da db dc : DE} {dt du : DT} {dr : DA}
theorem xe_op {op : Operator} {f : D2} (ho : Opd X ct E (binaryOp op) f) (ha : PEd X ct E a da) (hb : PEd X ct E b db) : PEd X ct E (.BinOp a op b pos) (dOp f da db) := by
  obtain ⟨r, h1, h2⟩ := ho
  obtain ⟨ta, a1, a2⟩ := ha
  obtain ⟨tb, b1, b2⟩ := hb
  exact ⟨_, pe_op h1 a1 b1, snd_op h2 a2 b2⟩
theorem xe_un {op : UnaryOp} {f : D1} (ho : Und X ct E (unaryOp op) f) (ha : PEd X ct E a da) : PEd X ct E (.UnaryOp op a pos) (dUn f da) := by
  obtain ⟨r, h1, h2⟩ := ho
  obtain ⟨ta, a1, a2⟩ := ha
  exact ⟨_, pe_un h1 a1, snd_un h2 a2⟩
theorem xe_ix {f : D2} (ho : Ixd X ct E f) (ha : PEd X ct E a da) (hb : PEd X ct E b db) (hs : PlainIx b := by exact fun _ _ => rfl) : PEd X ct E (.Subscript a b pos) (dOp f da db) := by
  obtain ⟨r, h1, h2⟩ := ho
  obtain ⟨ta, a1, a2⟩ := ha
  obtain ⟨tb, b1, b2⟩ := hb
  exact ⟨_, pe_ix h1 a1 b1 hs, snd_op h2 a2 b2⟩
theorem xa_nil : PAd X ct E [] dNil := ⟨_, pa_nil, snd_nil⟩
theorem xe_tup {x1} (h : PAd X ct E es dr) : PEd X ct E (.Tuple es x1 pos) (dTup dr) := by
  obtain ⟨t, h1, h2⟩ := h
  exact ⟨_, pe_tup h1, snd_tup h2⟩
theorem xe_lst (h : PAd X ct E es dr) : PEd X ct E (.List es pos) (dLst dr) := by
  obtain ⟨t, h1, h2⟩ := h
  exact ⟨_, pe_lst h1, snd_lst h2⟩
theorem xt_val {e : Expr} {d : DE} (h : PEd X ct E e d) (he : ∀ whole, isTrue e X.env whole = (do let v ← whole; standAt e.pos; holding [v] (truthy v)) := by intro _; rfl) : PTd X ct E e (dB d) := by
  obtain ⟨t, h1, h2⟩ := h
  exact ⟨_, pt_val h1 he, snd_B h2⟩
theorem xw_and1 (h : PTd X ct E a dt) : PWd X ct E (.BoolOp .And [a] pos) dt := by
  obtain ⟨t, h1, h2⟩ := h
  exact ⟨_, pw_and1 h1, h2⟩
theorem xw_or1 (h : PTd X ct E a dt) : PWd X ct E (.BoolOp .Or [a] pos) dt := by
  obtain ⟨t, h1, h2⟩ := h
  exact ⟨_, pw_or1 h1, h2⟩
theorem xw_and (h : PTd X ct E a dt) (g : PWd X ct E (.BoolOp .And (b :: rest) pos) du) : PWd X ct E (.BoolOp .And (a :: b :: rest) pos) (dAnd dt du) := by
  obtain ⟨t, h1, h2⟩ := h
  obtain ⟨u, g1, g2⟩ := g
  exact ⟨_, pw_and h1 g1, snd_and h2 g2⟩
theorem xw_or (h : PTd X ct E a dt) (g : PWd X ct E (.BoolOp .Or (b :: rest) pos) du) : PWd X ct E (.BoolOp .Or (a :: b :: rest) pos) (dOr dt du) := by
  obtain ⟨t, h1, h2⟩ := h
  obtain ⟨u, g1, g2⟩ := g
  exact ⟨_, pw_or h1 g1, snd_or h2 g2⟩
theorem xt_w (h : PWd X ct E a dt) : PTd X ct E a dt := by
  obtain ⟨t, h1, h2⟩ := h
  exact ⟨_, h1.pt, h2⟩
theorem xt_not (h : PTd X ct E a dt) : PTd X ct E (.UnaryOp .Not a pos) (dNot dt) := by
  obtain ⟨t, h1, h2⟩ := h
  exact ⟨_, pt_not h1, snd_not h2⟩
theorem xe_one {op} (h : PEd X ct E a da) : PEd X ct E (.BoolOp op [a] pos) da := by
  obtain ⟨t, h1, h2⟩ := h
  exact ⟨_, pe_one h1, h2⟩
theorem xe_and (h : PEd X ct E a da) (g : PEd X ct E (.BoolOp .And (b :: rest) pos) db) : PEd X ct E (.BoolOp .And (a :: b :: rest) pos) (dAndV da db) := by
  obtain ⟨t, h1, h2⟩ := h
  obtain ⟨u, g1, g2⟩ := g
  exact ⟨_, pe_and h1 g1, snd_andV h2 g2⟩
theorem xe_or (h : PEd X ct E a da) (g : PEd X ct E (.BoolOp .Or (b :: rest) pos) db) : PEd X ct E (.BoolOp .Or (a :: b :: rest) pos) (dOrV da db) := by
  obtain ⟨t, h1, h2⟩ := h
  obtain ⟨u, g1, g2⟩ := g
  exact ⟨_, pe_or h1 g1, snd_orV h2 g2⟩
theorem xe_not (h : PEd X ct E a da) : PEd X ct E (.UnaryOp .Not a pos) (dNotV da) := by
  obtain ⟨t, h1, h2⟩ := h
  exact ⟨_, pe_not h1, snd_notV h2⟩
theorem xe_if (h : PTd X ct E c dt) (ha : PEd X ct E a da) (hb : PEd X ct E b db) : PEd X ct E (.IfExp c a b pos) (dIf dt da db) := by
  obtain ⟨t, h1, h2⟩ := h
  obtain ⟨ta, a1, a2⟩ := ha
  obtain ⟨tb, b1, b2⟩ := hb
  exact ⟨_, pe_ifExp h1 a1 b1, snd_if h2 a2 b2⟩
end
end EE
set_option Elab.async false
set_option linter.all false
set_option maxRecDepth 100000
set_option maxHeartbeats 1000000
namespace EE
open PySem PySem.Spec PyProof.Rows L2
def lstAt (h : EH) (n : Nat) : Option (List EV) := match h[n]? with
  | some (.lst xs) => some xs
  | some (.ro xs) => some xs
  | _ => none
def mutAt (h : EH) (n : Nat) : Option (List EV) := match h[n]? with
  | some (.lst xs) => some xs
  | _ => none
def dicAt (h : EH) (n : Nat) : Option (Bool × List (EV × EV)) := match h[n]? with
  | some (.dic t xs) => some (t, xs)
  | some (.lkd t xs) => some (t, xs)
  | _ => none
section
variable {G : Gx} {ρ : Rho} {H : Hp} {eh : EH} {n : Nat}
theorem lst_of (hr : HR G ρ H eh) {xs : List EV} (h : lstAt eh n = some xs) : ∃ a vs, adr ρ n = some a ∧ SqL G.K H a vs ∧ VRs G.K ρ H xs vs := by
  unfold lstAt at h
  split at h
  · rename_i ys e
    cases h
    obtain ⟨a, h1, vs, h2, h3⟩ := hr.obj n _ e
    exact ⟨a, vs, adr_of h1, SqL.of h2, h3⟩
  · rename_i ys e
    cases h
    obtain ⟨a, h1, vs, h2, h3⟩ := hr.obj n _ e
    exact ⟨a, vs, adr_of h1, h2.sq, h3⟩
  · cases h
theorem mut_of (hr : HR G ρ H eh) {xs : List EV} (h : mutAt eh n = some xs) : ∃ a vs, adr ρ n = some a ∧ H a = some (.lst vs) ∧ VRs G.K ρ H xs vs ∧ ρ[n]? = some (true, a) := by
  unfold mutAt at h
  split at h
  · rename_i ys e
    cases h
    obtain ⟨a, h1, vs, h2, h3⟩ := hr.obj n _ e
    exact ⟨a, vs, adr_of h1, h2, h3, h1⟩
  · cases h
end
def fInt (c : Int → Int → Bool) (g : Int → Int → EV) : D2 := fun x y h => match x, y with
  | .int i, .int j => if c i j = true then .ok (g i j) h else .no
  | _, _ => .no
def fAddI : D2 := fInt (fun _ _ => true) fun i j => .int (i + j)
def fSub : D2 := fInt (fun _ _ => true) fun i j => .int (i - j)
def fMulI : D2 := fInt (fun i j => (decide (-(2 ^ 64) < i) && decide (i < 2 ^ 64)) || (decide (-(2 ^ 64) < j) && decide (j < 2 ^ 64))) fun i j => .int (i * j)
def fMod : D2 := fInt (fun _ j => decide (0 < j)) fun i j => .int (i % j)
def fDiv : D2 := fInt (fun _ j => decide (0 < j) && decide (j < 2 ^ 64)) fun i j => .int (i / j)
def fPow : D2 := fInt (fun i j => decide (0 ≤ j) && decide (j ≤ 64) && decide (i.natAbs < 2 ^ 64)) fun i j => .int (i ^ j.toNat)
def fLt : D2 := fInt (fun _ _ => true) fun i j => .bl (decide (i < j))
def fLe : D2 := fInt (fun _ _ => true) fun i j => .bl (decide (i ≤ j))
def fGt : D2 := fInt (fun _ _ => true) fun i j => .bl (decide (j < i))
def fGe : D2 := fInt (fun _ _ => true) fun i j => .bl (decide (j ≤ i))
section
variable {X : Cx} {ct : Nat → Addr × List Str} {E : XK} {G : Gx}
theorem snd_I {c : Int → Int → Bool} {C : Int → Int → Prop} {g : Int → Int → EV} {gV : Int → Int → V} (hc : ∀ i j, c i j = true → C i j) (hg : ∀ ρ H i j, VR G.K ρ H (g i j) (gV i j)) : Snd2 G E (rI C gV) (fInt c g) := fun ρ H eh x y a b Q hr hx hy h => by
  unfold fInt at h
  split at h
  · rename_i i j
    split at h
    · rename_i hcc
      exact ⟨i, j, vr_int.mp hx, vr_int.mp hy, hc i j hcc, h ρ H _ (Ext.refl _ _ _) hr (hg _ _ _ _)⟩
    · exact h.elim
  · exact h.elim
theorem snd_I0 {c : Int → Int → Bool} {g : Int → Int → EV} {gV : Int → Int → V} (hg : ∀ ρ H i j, VR G.K ρ H (g i j) (gV i j)) : Snd2 G E (rI0 gV) (fInt c g) := fun ρ H eh x y a b Q hr hx hy h => by
  unfold fInt at h
  split at h
  · rename_i i j
    split at h
    · rename_i hcc
      exact ⟨i, j, vr_int.mp hx, vr_int.mp hy, h ρ H _ (Ext.refl _ _ _) hr (hg _ _ _ _)⟩
    · exact h.elim
  · exact h.elim
theorem OpR.or {f : Value → Value → Sem Value} {r r' : R2} (h : OpR X f r) (h' : OpR X f r') : OpR X f (fun x y H Q => r x y H Q ∨ r' x y H Q) := by
  intro pins s σ H x y v u Q I rx ry q
  rcases q with q | q
  · exact h pins s σ H x y v u Q I rx ry q
  · exact h' pins s σ H x y v u Q I rx ry q
theorem Opd.or {f : Value → Value → Sem Value} {d d' : D2} (h : Opd X ct E f d) (h' : Opd X ct E f d') : Opd X ct E f (d2or d d') := by
  obtain ⟨r, h1, h2⟩ := h
  obtain ⟨r', h1', h2'⟩ := h'
  refine ⟨_, OpR.or h1 h1', fun ρ H eh x y a b Q hr hx hy h => ?_⟩
  rcases wr_or h with h | h
  · exact .inl (h2 ρ H eh x y a b Q hr hx hy h)
  · exact .inr (h2' ρ H eh x y a b Q hr hx hy h)
theorem Ixd.or {d d' : D2} (h : Ixd X ct E d) (h' : Ixd X ct E d') : Ixd X ct E (d2or d d') := by
  obtain ⟨r, h1, h2⟩ := h
  obtain ⟨r', h1', h2'⟩ := h'
  refine ⟨_, h1.or h1', fun ρ H eh x y a b Q hr hx hy h => ?_⟩
  rcases wr_or h with h | h
  · exact .inl (h2 ρ H eh x y a b Q hr hx hy h)
  · exact .inr (h2' ρ H eh x y a b Q hr hx hy h)
theorem Cld.or {f : Value} {d d' : DL} (h : Cld X ct E f d) (h' : Cld X ct E f d') : Cld X ct E f (dLor d d') := by
  obtain ⟨r, h1, h2⟩ := h
  obtain ⟨r', h1', h2'⟩ := h'
  refine ⟨_, h1.or h1', fun ρ H eh xs as Q hr hx h => ?_⟩
  rcases wr_or h with h | h
  · exact .inl (h2 ρ H eh xs as Q hr hx h)
  · exact .inr (h2' ρ H eh xs as Q hr hx h)
theorem Mtd.or {id : String} {d d' : EV → DL} (h : Mtd X ct E id d) (h' : Mtd X ct E id d') : Mtd X ct E id (dMor d d') := by
  obtain ⟨r, h1, h2⟩ := h
  obtain ⟨r', h1', h2'⟩ := h'
  refine ⟨_, h1.or h1', fun ρ H eh x a xs as Q hr hx hxs h => ?_⟩
  rcases wr_or h with h | h
  · exact .inl (h2 ρ H eh x a xs as Q hr hx hxs h)
  · exact .inr (h2' ρ H eh x a xs as Q hr hx hxs h)
theorem pow64 : (2 : Int) ^ 64 = 18446744073709551616 := by decide
theorem o_addI : Opd X ct E (binaryOp .Add) fAddI := ⟨_, op_add, snd_I0 fun _ _ _ _ => vr_int.mpr rfl⟩
theorem o_sub : Opd X ct E (binaryOp .Sub) fSub := ⟨_, op_sub, snd_I0 fun _ _ _ _ => vr_int.mpr rfl⟩
theorem o_mulI : Opd X ct E (binaryOp .Mult) fMulI := ⟨_, op_mul, snd_I (fun i j h => by
  simp only [Bool.or_eq_true, Bool.and_eq_true, decide_eq_true_eq] at h
  exact h) fun _ _ _ _ => vr_int.mpr rfl⟩
theorem o_mod : Opd X ct E (binaryOp .Mod) fMod := ⟨_, op_mod, snd_I (fun i j h => of_decide_eq_true h) fun _ _ _ _ => vr_int.mpr rfl⟩
theorem o_div : Opd X ct E (binaryOp .FloorDiv) fDiv := ⟨_, op_fdivW, snd_I (fun i j h => by
  simp only [Bool.and_eq_true, decide_eq_true_eq] at h
  refine wide_div (b := 64) h.1 ?_ (by decide) (by decide)
  have := h.2
  rw [pow64] at this
  have e : (2 : Nat) ^ 64 = 18446744073709551616 := by decide
  rw [e]
  omega) fun _ _ _ _ => vr_int.mpr rfl⟩
theorem o_pow : Opd X ct E (binaryOp .Pow) fPow := ⟨_, op_pow, snd_I (fun i j h => by
  simp only [Bool.and_eq_true, decide_eq_true_eq] at h
  exact ⟨h.1.1, by omega, h.2⟩) fun _ _ _ _ => vr_int.mpr rfl⟩
theorem o_lt : Opd X ct E (compareOp .Lt) fLt := ⟨_, op_lt, snd_I0 fun _ _ _ _ => vr_bl.mpr rfl⟩
theorem o_le : Opd X ct E (compareOp .LtE) fLe := ⟨_, op_le, snd_I0 fun _ _ _ _ => vr_bl.mpr rfl⟩
theorem o_gt : Opd X ct E (compareOp .Gt) fGt := ⟨_, op_gt, snd_I0 fun _ _ _ _ => vr_bl.mpr rfl⟩
theorem o_ge : Opd X ct E (compareOp .GtE) fGe := ⟨_, op_ge, snd_I0 fun _ _ _ _ => vr_bl.mpr rfl⟩
def fNeg : D1 := fun x h => match x with
  | .int i => .ok (.int (-i)) h
  | _ => .no
theorem o_neg : Und X ct E (unaryOp .USub) fNeg := ⟨_, un_neg, fun ρ H eh x a Q hr hx h => by
  unfold fNeg at h
  split at h
  · rename_i i
    exact ⟨i, vr_int.mp hx, h ρ H _ (Ext.refl _ _ _) hr (vr_int.mpr rfl)⟩
  · exact h.elim⟩
def fCat : D2 := fun x y h => match x, y with
  | .ref m, .ref n => match mutAt h m, mutAt h n with
    | some xs, some ys => if xs.length + ys.length ≤ 100000 then .ok (.ref h.length) (h ++ [.lst (xs ++ ys)]) else .no
    | _, _ => .no
  | _, _ => .no
theorem o_cat : Opd X ct E (binaryOp .Add) fCat := ⟨_, op_cat, fun ρ H eh x y a b Q hr hx hy h => by
  unfold fCat at h
  split at h
  · rename_i m n
    split at h
    · rename_i xs ys e1 e2
      split at h
      · rename_i hl
        obtain ⟨a1, vs, g1, g2, g3, _⟩ := mut_of hr e1
        obtain ⟨a2, us, k1, k2, k3, _⟩ := mut_of hr e2
        obtain ⟨a', q1, rfl⟩ := vr_ref.mp hx
        obtain ⟨b', q2, rfl⟩ := vr_ref.mp hy
        rw [g1] at q1; cases q1
        rw [k1] at q2; cases q2
        refine ⟨a1, a2, vs, us, rfl, rfl, g2, k2, ?_, new_lst hr (g3.append k3) h⟩
        rw [← g3.length, ← k3.length]
        exact sz5 hl
      · exact h.elim
    · exact h.elim
  · exact h.elim⟩
def fRep : D2 := fun x y h => match x, y with
  | .ref m, .int k => match mutAt h m with
    | some xs => if decide (0 ≤ k) && decide (k ≤ 1000) && decide (xs.length ≤ 10) = true then .ok (.ref h.length) (h ++ [.lst (List.replicate k.toNat xs).flatten]) else .no
    | _ => .no
  | _, _ => .no
theorem VRs.rep {K : Fg} {ρ : Rho} {H : Hp} {xs : List EV} {vs : List V} (h : VRs K ρ H xs vs) : ∀ n : Nat, VRs K ρ H (List.replicate n xs).flatten (List.replicate n vs).flatten
  | 0 => vrs_nil.mpr rfl
  | n + 1 => by
    rw [List.replicate_succ, List.replicate_succ, List.flatten_cons, List.flatten_cons]
    exact h.append (VRs.rep h n)
theorem o_rep : Opd X ct E (binaryOp .Mult) fRep := ⟨_, op_rep, fun ρ H eh x y a b Q hr hx hy h => by
  unfold fRep at h
  split at h
  · rename_i m k
    split at h
    · rename_i xs e1
      split at h
      · rename_i hl
        simp only [Bool.and_eq_true, decide_eq_true_eq] at hl
        obtain ⟨⟨l1, l2⟩, l3⟩ := hl
        obtain ⟨a1, vs, g1, g2, g3, _⟩ := mut_of hr e1
        obtain ⟨a', q1, rfl⟩ := vr_ref.mp hx
        rw [g1] at q1; cases q1
        refine ⟨a1, k, vs, rfl, vr_int.mp hy, g2, by omega, by omega, ?_, new_lst hr (g3.rep _) h⟩
        rw [← g3.length]
        have h1 : k.toNat ≤ 1000 := by omega
        exact sz5 (Nat.le_trans (Nat.mul_le_mul l3 h1) (by decide))
      · exact h.elim
    · exact h.elim
  · exact h.elim⟩
def fIxL : D2 := fun x y h => match x, y with
  | .ref m, .int i => match lstAt h m with
    | some xs => match atI xs i with
      | some v => .ok v h
      | none => .no
    | none => .no
  | _, _ => .no
theorem atI_vr {K : Fg} {ρ : Rho} {H : Hp} {xs : List EV} {vs : List V} (h : VRs K ρ H xs vs) {i : Int} {x : EV} (e : atI xs i = some x) : ∃ v, atI vs i = some v ∧ VR K ρ H x v := by
  unfold atI at e ⊢
  rw [← h.length]
  cases q : ixN xs.length i with
  | none => rw [q] at e; cases e
  | some j =>
    rw [q] at e
    exact h.get e
theorem i_lst : Ixd X ct E fIxL := ⟨_, ix_list, fun ρ H eh x y a b Q hr hx hy h => by
  unfold fIxL at h
  split at h
  · rename_i m i
    split at h
    · rename_i xs e1
      split at h
      · rename_i v e2
        obtain ⟨a1, vs, g1, g2, g3⟩ := lst_of hr e1
        obtain ⟨a', q1, rfl⟩ := vr_ref.mp hx
        rw [g1] at q1; cases q1
        obtain ⟨w, w1, w2⟩ := atI_vr g3 e2
        exact ⟨a1, vs, i, w, rfl, vr_int.mp hy, g2, w1, h ρ H _ (Ext.refl _ _ _) hr w2⟩
      · exact h.elim
    · exact h.elim
  · exact h.elim⟩
def fIxT : D2 := fun x y h => match x, y with
  | .tup xs, .int i => match atI xs i with
    | some v => .ok v h
    | none => .no
  | _, _ => .no
theorem i_tup : Ixd X ct E fIxT := ⟨_, ix_tup, fun ρ H eh x y a b Q hr hx hy h => by
  unfold fIxT at h
  split at h
  · rename_i xs i
    split at h
    · rename_i v e2
      obtain ⟨a1, vs, rfl, g2, g3⟩ := vr_tup.mp hx
      obtain ⟨w, w1, w2⟩ := atI_vr g3 e2
      exact ⟨a1, vs, i, w, rfl, vr_int.mp hy, SqT.of g2, w1, h ρ H _ (Ext.refl _ _ _) hr w2⟩
    · exact h.elim
  · exact h.elim⟩
abbrev fIx : D2 := d2or fIxL fIxT
theorem i_ix : Ixd X ct E fIx := i_lst.or i_tup
def cutE (xs : List EV) (lo hi : Option Int) : List EV := (xs.drop (HT.sIx xs.length 0 lo)).take (HT.sIx xs.length xs.length hi - HT.sIx xs.length 0 lo)
def fSl : EV → Option Int → Option Int → EH → Res EV := fun x lo hi h => match x with
  | .ref m => match lstAt h m with
    | some xs => .ok (.ref h.length) (h ++ [.lst (cutE xs lo hi)])
    | none => .no
  | _ => .no
def dPart (e : Option DE) : ES → EH → Res (Option Int) := fun es h => match e with
  | none => .ok none h
  | some d => (d es h).bind fun x h1 => match x with
    | .int i => .ok (some i) h1
    | _ => .no
def dSl (f : EV → Option Int → Option Int → EH → Res EV) (a : DE) (lo hi : ES → EH → Res (Option Int)) : DE := fun es h => (a es h).bind fun x h1 => (lo es h1).bind fun l h2 => (hi es h2).bind fun u h3 => f x l u h3
abbrev RO : Rho → Hp → Option Int → Option Int → Prop := fun _ _ a b => a = b
def POd (X : Cx) (ct : Nat → Addr × List Str) (E : XK) (e : Option Expr) (d : ES → EH → Res (Option Int)) : Prop := ∃ t, PO X e t ∧ Sound ⟨X.K, ct⟩ E RO t d
theorem xo_none : POd X ct E none (dPart none) := ⟨_, po_none, fun ρ σ H es eh Q rel h => h ρ H none (Ext.refl _ _ _) rel.hr rfl⟩
theorem xo_some {e : Expr} {d : DE} (h : PEd X ct E e d) : POd X ct E (some e) (dPart (some d)) := by
  obtain ⟨t, h1, h2⟩ := h
  refine ⟨_, po_some h1, fun ρ σ H es eh Q rel h => ?_⟩
  refine h2.bind rel h fun ρ1 H1 x eh1 u e1 rel1 v1 h1 => ?_
  cases x with
  | int i => exact ⟨i, vr_int.mp v1, h1 ρ1 H1 _ (Ext.refl _ _ _) rel1.hr rfl⟩
  | _ => exact h1.elim
theorem xe_slice {a : Expr} {lo hi : Option Expr} {p2 pos : Pos} {da : DE} {dl dh : ES → EH → Res (Option Int)} (ha : PEd X ct E a da) (hl : POd X ct E lo dl) (hh : POd X ct E hi dh) : PEd X ct E (.Subscript a (.Slice lo hi none p2) pos) (dSl fSl da dl dh) := by
  obtain ⟨t, h1, h2⟩ := ha
  obtain ⟨tl, l1, l2⟩ := hl
  obtain ⟨th, k1, k2⟩ := hh
  refine ⟨_, pe_slice sl_list h1 l1 k1, fun ρ σ H es eh Q rel h => ?_⟩
  refine h2.bind rel h fun ρ1 H1 x eh1 u e1 rel1 v1 h1 => ?_
  refine l2.bind rel1 h1 fun ρ2 H2 l eh2 l' e2 rel2 v2 h2 => ?_
  refine k2.bind rel2 h2 fun ρ3 H3 k eh3 k' e3 rel3 v3 h3 => ?_
  cases v2
  cases v3
  have v1' := (v1.mono e2).mono e3
  unfold fSl at h3
  split at h3
  · rename_i m
    split at h3
    · rename_i xs e4
      obtain ⟨a1, vs, g1, g2, g3⟩ := lst_of rel3.hr e4
      obtain ⟨a', q1, rfl⟩ := vr_ref.mp v1'
      rw [g1] at q1; cases q1
      refine ⟨a1, vs, rfl, g2, new_lst rel3.hr ?_ h3⟩
      unfold cutV
      rw [← g3.length]
      exact (g3.drop _).take _
    · exact h3.elim
  · exact h3.elim
def fLen : DL := fun xs h => match xs with
  | [.ref m] => match lstAt h m with
    | some xs => .ok (.int xs.length) h
    | none => .no
  | [.tup xs] => .ok (.int xs.length) h
  | _ => .no
theorem vrs_one {K : Fg} {ρ : Rho} {H : Hp} {x : EV} {vs : List V} (h : VRs K ρ H [x] vs) : ∃ v, vs = [v] ∧ VR K ρ H x v := by
  obtain ⟨v, r, rfl, h1, h2⟩ := vrs_cons.mp h
  rw [vrs_nil.mp h2]
  exact ⟨v, rfl, h1⟩
theorem vrs_two {K : Fg} {ρ : Rho} {H : Hp} {x y : EV} {vs : List V} (h : VRs K ρ H [x, y] vs) : ∃ v u, vs = [v, u] ∧ VR K ρ H x v ∧ VR K ρ H y u := by
  obtain ⟨v, r, rfl, h1, h2⟩ := vrs_cons.mp h
  obtain ⟨u, rfl, h3⟩ := vrs_one h2
  exact ⟨v, u, rfl, h1, h3⟩
theorem c_len : Cld X ct E (.builtin "len") fLen := ⟨_, call_len_seq, fun ρ H eh xs as Q hr hx h => by
  unfold fLen at h
  split at h
  · rename_i m
    split at h
    · rename_i ys e1
      obtain ⟨v, rfl, hv⟩ := vrs_one hx
      obtain ⟨a1, vs, g1, g2, g3⟩ := lst_of hr e1
      obtain ⟨a', q1, rfl⟩ := vr_ref.mp hv
      rw [g1] at q1; cases q1
      exact ⟨a1, vs, rfl, .inl g2, h ρ H _ (Ext.refl _ _ _) hr (by rw [g3.length]; exact vr_int.mpr rfl)⟩
    · exact h.elim
  · rename_i ys
    obtain ⟨v, rfl, hv⟩ := vrs_one hx
    obtain ⟨a1, vs, rfl, g2, g3⟩ := vr_tup.mp hv
    exact ⟨a1, vs, rfl, .inr (SqT.of g2), h ρ H _ (Ext.refl _ _ _) hr (by rw [g3.length]; exact vr_int.mpr rfl)⟩
  · exact h.elim⟩
def fListOf : DL := fun xs h => match xs with
  | [.ref m] => match lstAt h m with
    | some xs => .ok (.ref h.length) (h ++ [.lst xs])
    | none => .no
  | [.tup xs] => .ok (.ref h.length) (h ++ [.lst xs])
  | _ => .no
theorem c_list : Cld X ct E (.type "list") fListOf := ⟨_, call_list_of, fun ρ H eh xs as Q hr hx h => by
  unfold fListOf at h
  split at h
  · rename_i m
    split at h
    · rename_i ys e1
      obtain ⟨v, rfl, hv⟩ := vrs_one hx
      obtain ⟨a1, vs, g1, g2, g3⟩ := lst_of hr e1
      obtain ⟨a', q1, rfl⟩ := vr_ref.mp hv
      rw [g1] at q1; cases q1
      exact ⟨a1, vs, rfl, .inl g2, new_lst hr g3 h⟩
    · exact h.elim
  · rename_i ys
    obtain ⟨v, rfl, hv⟩ := vrs_one hx
    obtain ⟨a1, vs, rfl, g2, g3⟩ := vr_tup.mp hv
    exact ⟨a1, vs, rfl, .inr (SqT.of g2), new_lst hr g3 h⟩
  · exact h.elim⟩
mutual
def dat0 (f : Nat → Option (List PyData)) : EV → Option PyData
  | .non => some .none
  | .bl b => some (.bool b)
  | .int i => some (.int i)
  | .str x => some (.str x)
  | .ref n => (f n).map PyData.list
  | .ty _ => none
  | .exc _ _ _ _ => none
  | .tup xs => (dat0s f xs).map PyData.tuple
def dat0s (f : Nat → Option (List PyData)) : List EV → Option (List PyData)
  | [] => some []
  | x :: xs => match dat0 f x, dat0s f xs with
    | some d, some ds => some (d :: ds)
    | _, _ => none
end
def datF (h : EH) : Nat → Nat → Option (List PyData)
  | 0, _ => none
  | n + 1, k => match lstAt h k with
    | some xs => dat0s (datF h n) xs
    | none => none
def dat (h : EH) (x : EV) : Option PyData := dat0 (datF h 4) x
mutual
theorem dat0_dp {G : Gx} {ρ : Rho} {H : Hp} {f : Nat → Option (List PyData)} (hf : ∀ n ds, f n = some ds → ∃ a vs, adr ρ n = some a ∧ SqL G.K H a vs ∧ DpAll G.K H vs ds) : ∀ (x : EV) (v : V) (d : PyData), VR G.K ρ H x v → dat0 f x = some d → Dp G.K H v d
  | .non, v, d, hx, h => by
    rw [vr_non.mp hx]
    simp only [dat0, Option.some.injEq] at h
    subst h
    exact .non
  | .bl b, v, d, hx, h => by
    rw [vr_bl.mp hx]
    simp only [dat0, Option.some.injEq] at h
    subst h
    exact .bl b
  | .int b, v, d, hx, h => by
    rw [vr_int.mp hx]
    simp only [dat0, Option.some.injEq] at h
    subst h
    exact .int b
  | .str b, v, d, hx, h => by
    rw [vr_str.mp hx]
    simp only [dat0, Option.some.injEq] at h
    subst h
    exact .str b
  | .ty b, v, d, hx, h => by
    simp only [dat0] at h
    cases h
  | .exc _ _ _ _, v, d, hx, h => by
    simp only [dat0] at h
    cases h
  | .ref n, v, d, hx, h => by
    simp only [dat0] at h
    obtain ⟨ds, h1, rfl⟩ := Option.map_eq_some_iff.mp h
    obtain ⟨a, vs, e1, e2, e3⟩ := hf n ds h1
    obtain ⟨a', e4, rfl⟩ := vr_ref.mp hx
    rw [e1] at e4; cases e4
    exact .lst e2 e3
  | .tup xs, v, d, hx, h => by
    simp only [dat0] at h
    obtain ⟨ds, h1, rfl⟩ := Option.map_eq_some_iff.mp h
    obtain ⟨a, vs, rfl, e2, e3⟩ := vr_tup.mp hx
    exact .tup (SqT.of e2) (dat0s_dp hf xs vs ds e3 h1)
theorem dat0s_dp {G : Gx} {ρ : Rho} {H : Hp} {f : Nat → Option (List PyData)} (hf : ∀ n ds, f n = some ds → ∃ a vs, adr ρ n = some a ∧ SqL G.K H a vs ∧ DpAll G.K H vs ds) : ∀ (xs : List EV) (vs : List V) (ds : List PyData), VRs G.K ρ H xs vs → dat0s f xs = some ds → DpAll G.K H vs ds
  | [], vs, ds, hx, h => by
    rw [vrs_nil.mp hx]
    simp only [dat0s, Option.some.injEq] at h
    subst h
    exact .nil
  | x :: xs, vs, ds, hx, h => by
    obtain ⟨v, r, rfl, h1, h2⟩ := vrs_cons.mp hx
    simp only [dat0s] at h
    split at h
    · rename_i d ds' e1 e2
      cases h
      exact .cons (dat0_dp hf x v d h1 e1) (dat0s_dp hf xs r ds' h2 e2)
    · cases h
end
theorem datF_dp {G : Gx} {ρ : Rho} {H : Hp} {eh : EH} (hr : HR G ρ H eh) : ∀ (m n : Nat) (ds : List PyData), datF eh m n = some ds → ∃ a vs, adr ρ n = some a ∧ SqL G.K H a vs ∧ DpAll G.K H vs ds
  | 0, n, ds, h => by cases h
  | m + 1, n, ds, h => by
    simp only [datF] at h
    split at h
    · rename_i xs e1
      obtain ⟨a, vs, g1, g2, g3⟩ := lst_of hr e1
      exact ⟨a, vs, g1, g2, dat0s_dp (fun k ks => datF_dp hr m k ks) xs vs ds g3 h⟩
    · cases h
theorem dat_dp {G : Gx} {ρ : Rho} {H : Hp} {eh : EH} (hr : HR G ρ H eh) {x : EV} {v : V} {d : PyData} (hx : VR G.K ρ H x v) (h : dat eh x = some d) : Dp G.K H v d := dat0_dp (datF_dp hr 4) x v d hx h
def fEqS (neg : Bool) : D2 := fun x y h => match x, y with
  | .int i, .int j => .ok (.bl (neg ^^ decide (i = j))) h
  | .bl i, .bl j => .ok (.bl (neg ^^ decide (i = j))) h
  | .str i, .str j => .ok (.bl (neg ^^ decide (i = j))) h
  | _, _ => .no
def fEqD (neg : Bool) : D2 := fun x y h => match dat h x, dat h y with
  | some d, some e => if (SeqAt.shaped d && SeqAt.shaped e) = true then .ok (.bl (neg ^^ PyData.eqv d e)) h else .no
  | _, _ => .no
abbrev fEq : D2 := d2or (fEqS false) (fEqD false)
abbrev fNe : D2 := d2or (fEqS true) (fEqD true)
theorem o_eqS : Opd X ct E (compareOp .Eq) (fEqS false) := ⟨_, op_eq, fun ρ H eh x y a b Q hr hx hy h => by
  unfold fEqS at h
  split at h
  · rename_i i j
    rw [vr_int.mp hx, vr_int.mp hy]
    refine ⟨rfl, h ρ H _ (Ext.refl _ _ _) hr (vr_bl.mpr ?_)⟩
    simp
  · rename_i i j
    rw [vr_bl.mp hx, vr_bl.mp hy]
    refine ⟨rfl, h ρ H _ (Ext.refl _ _ _) hr (vr_bl.mpr ?_)⟩
    simp
  · rename_i i j
    rw [vr_str.mp hx, vr_str.mp hy]
    refine ⟨rfl, h ρ H _ (Ext.refl _ _ _) hr (vr_bl.mpr ?_)⟩
    simp
  · exact h.elim⟩
theorem o_neS : Opd X ct E (compareOp .NotEq) (fEqS true) := ⟨_, op_ne, fun ρ H eh x y a b Q hr hx hy h => by
  unfold fEqS at h
  split at h
  · rename_i i j
    rw [vr_int.mp hx, vr_int.mp hy]
    refine ⟨rfl, h ρ H _ (Ext.refl _ _ _) hr (vr_bl.mpr ?_)⟩
    simp
  · rename_i i j
    rw [vr_bl.mp hx, vr_bl.mp hy]
    refine ⟨rfl, h ρ H _ (Ext.refl _ _ _) hr (vr_bl.mpr ?_)⟩
    simp
  · rename_i i j
    rw [vr_str.mp hx, vr_str.mp hy]
    refine ⟨rfl, h ρ H _ (Ext.refl _ _ _) hr (vr_bl.mpr ?_)⟩
    simp
  · exact h.elim⟩
theorem o_eqD (hu : X.A.units + 64 < cLine) : Opd X ct E (compareOp .Eq) (fEqD false) := ⟨_, op_eqD hu, fun ρ H eh x y a b Q hr hx hy h => by
  unfold fEqD at h
  split at h
  · rename_i d e e1 e2
    split at h
    · rename_i hs
      simp only [Bool.and_eq_true] at hs
      refine ⟨d, e, dat_dp hr hx e1, dat_dp hr hy e2, hs.1, hs.2, h ρ H _ (Ext.refl _ _ _) hr (vr_bl.mpr ?_)⟩
      simp
    · exact h.elim
  · exact h.elim⟩
theorem o_neD (hu : X.A.units + 64 < cLine) : Opd X ct E (compareOp .NotEq) (fEqD true) := ⟨_, op_neD hu, fun ρ H eh x y a b Q hr hx hy h => by
  unfold fEqD at h
  split at h
  · rename_i d e e1 e2
    split at h
    · rename_i hs
      simp only [Bool.and_eq_true] at hs
      refine ⟨d, e, dat_dp hr hx e1, dat_dp hr hy e2, hs.1, hs.2, h ρ H _ (Ext.refl _ _ _) hr (vr_bl.mpr ?_)⟩
      simp
    · exact h.elim
  · exact h.elim⟩
theorem o_eq (hu : X.A.units + 64 < cLine) : Opd X ct E (compareOp .Eq) fEq := o_eqS.or (o_eqD hu)
theorem o_ne (hu : X.A.units + 64 < cLine) : Opd X ct E (compareOp .NotEq) fNe := o_neS.or (o_neD hu)
def fInL (neg : Bool) : D2 := fun x y h => match y with
  | .ref n => match dat h x, datF h 4 n with
    | some d, some ds => if (SeqAt.shaped d && SeqAt.shaped (.list ds)) = true then .ok (.bl (neg ^^ ds.any fun z => PyData.eqv z d)) h else .no
    | _, _ => .no
  | _ => .no
theorem dat_ref {eh : EH} {n : Nat} {ds : List PyData} (h : datF eh 4 n = some ds) : dat eh (.ref n) = some (.list ds) := by
  unfold dat
  simp only [dat0, h, Option.map_some]
theorem o_inL (hu : X.A.units + 65 < cLine) : Opd X ct E (compareOp .In) (fInL false) := ⟨_, op_inD hu, fun ρ H eh x y a b Q hr hx hy h => by
  unfold fInL at h
  split at h
  · rename_i n
    split at h
    · rename_i d ds e1 e2
      split at h
      · rename_i hs
        simp only [Bool.and_eq_true] at hs
        refine ⟨d, ds, dat_dp hr hx e1, dat_dp hr hy (dat_ref e2), hs.1, hs.2, h ρ H _ (Ext.refl _ _ _) hr (vr_bl.mpr ?_)⟩
        simp
      · exact h.elim
    · exact h.elim
  · exact h.elim⟩
theorem o_notInL (hu : X.A.units + 65 < cLine) : Opd X ct E (compareOp .NotIn) (fInL true) := ⟨_, op_notInD hu, fun ρ H eh x y a b Q hr hx hy h => by
  unfold fInL at h
  split at h
  · rename_i n
    split at h
    · rename_i d ds e1 e2
      split at h
      · rename_i hs
        simp only [Bool.and_eq_true] at hs
        refine ⟨d, ds, dat_dp hr hx e1, dat_dp hr hy (dat_ref e2), hs.1, hs.2, h ρ H _ (Ext.refl _ _ _) hr (vr_bl.mpr ?_)⟩
        simp
      · exact h.elim
    · exact h.elim
  · exact h.elim⟩
def fIsN (neg : Bool) : D2 := fun x y h => match x, y with
  | .non, .non => .ok (.bl (neg ^^ true)) h
  | .int _, .non => .ok (.bl (neg ^^ false)) h
  | .bl _, .non => .ok (.bl (neg ^^ false)) h
  | .str _, .non => .ok (.bl (neg ^^ false)) h
  | .ref _, .non => .ok (.bl (neg ^^ false)) h
  | .tup _, .non => .ok (.bl (neg ^^ false)) h
  | _, _ => .no
theorem o_isN : Opd X ct E (compareOp .Is) (fIsN false) := ⟨_, op_isN, fun ρ H eh x y a b Q hr hx hy h => by
  unfold fIsN at h
  split at h
  · rw [vr_non.mp hx]
    exact ⟨vr_non.mp hy, h ρ H _ (Ext.refl _ _ _) hr (vr_bl.mpr (by simp))⟩
  · rw [vr_int.mp hx]
    exact ⟨vr_non.mp hy, h ρ H _ (Ext.refl _ _ _) hr (vr_bl.mpr (by simp))⟩
  · rw [vr_bl.mp hx]
    exact ⟨vr_non.mp hy, h ρ H _ (Ext.refl _ _ _) hr (vr_bl.mpr (by simp))⟩
  · rw [vr_str.mp hx]
    exact ⟨vr_non.mp hy, h ρ H _ (Ext.refl _ _ _) hr (vr_bl.mpr (by simp))⟩
  · obtain ⟨q, _, rfl⟩ := vr_ref.mp hx
    exact ⟨vr_non.mp hy, h ρ H _ (Ext.refl _ _ _) hr (vr_bl.mpr (by simp))⟩
  · obtain ⟨q, _, rfl, _⟩ := vr_tup.mp hx
    exact ⟨vr_non.mp hy, h ρ H _ (Ext.refl _ _ _) hr (vr_bl.mpr (by simp))⟩
  · exact h.elim⟩
theorem o_notN : Opd X ct E (compareOp .IsNot) (fIsN true) := ⟨_, op_notN, fun ρ H eh x y a b Q hr hx hy h => by
  unfold fIsN at h
  split at h
  · rw [vr_non.mp hx]
    exact ⟨vr_non.mp hy, h ρ H _ (Ext.refl _ _ _) hr (vr_bl.mpr (by simp))⟩
  · rw [vr_int.mp hx]
    exact ⟨vr_non.mp hy, h ρ H _ (Ext.refl _ _ _) hr (vr_bl.mpr (by simp))⟩
  · rw [vr_bl.mp hx]
    exact ⟨vr_non.mp hy, h ρ H _ (Ext.refl _ _ _) hr (vr_bl.mpr (by simp))⟩
  · rw [vr_str.mp hx]
    exact ⟨vr_non.mp hy, h ρ H _ (Ext.refl _ _ _) hr (vr_bl.mpr (by simp))⟩
  · obtain ⟨q, _, rfl⟩ := vr_ref.mp hx
    exact ⟨vr_non.mp hy, h ρ H _ (Ext.refl _ _ _) hr (vr_bl.mpr (by simp))⟩
  · obtain ⟨q, _, rfl, _⟩ := vr_tup.mp hx
    exact ⟨vr_non.mp hy, h ρ H _ (Ext.refl _ _ _) hr (vr_bl.mpr (by simp))⟩
  · exact h.elim⟩
variable {a b c e : Expr} {es rest : List Expr} {pos : Pos} {da db dc : DE} {dt du : DT} {dr : DA}
theorem xe_cmp {op : CmpOp} {f : D2} (ho : Opd X ct E (compareOp op) f) (ha : PEd X ct E a da) (hb : PEd X ct E b db) (hm : behindInMarks op b = false := by first | exact nobehind _ (by decide) (by decide) | rfl) : PEd X ct E (.Compare a [op] [b] pos) (dOp f da db) := by
  obtain ⟨r, h1, h2⟩ := ho
  obtain ⟨ta, a1, a2⟩ := ha
  obtain ⟨tb, b1, b2⟩ := hb
  exact ⟨_, pe_cmpR h1 a1 b1 hm, snd_op h2 a2 b2⟩
theorem xt_cmp {op : CmpOp} {f : D2} (ho : Opd X ct E (compareOp op) f) (ha : PEd X ct E a da) (hb : PEd X ct E b db) (hm : behindInMarks op b = false := by first | exact nobehind _ (by decide) (by decide) | rfl) : PTd X ct E (.Compare a [op] [b] pos) (dB (dOp f da db)) := by
  obtain ⟨r, h1, h2⟩ := ho
  obtain ⟨ta, a1, a2⟩ := ha
  obtain ⟨tb, b1, b2⟩ := hb
  exact ⟨_, pt_cmpR h1 a1 b1 hm, snd_B (snd_op h2 a2 b2)⟩
def dChain (f g : D2) (a b c : DE) : DE := fun es h => (a es h).bind fun x h1 => (b es h1).bind fun y h2 => (f x y h2).bind fun z h3 => match z with
  | .bl k => if k = true then (c es h3).bind fun w h4 => g y w h4 else .ok (.bl false) h3
  | _ => .no
theorem Snd2.bind {r : R2} {f : D2} {E : XK} (h : Snd2 G E r f) {ρ : Rho} {H : Hp} {eh : EH} (hr : HR G ρ H eh) {x y : EV} {a b : V} (hx : VR G.K ρ H x a) (hy : VR G.K ρ H y b)
    {γ δ : Type} {R2' : Rho → Hp → γ → δ → Prop} {k : EV → EH → Res γ} {Q2 : δ → Hp → Prop} (hw : wr G R2' ρ H ((f x y eh).bind k) Q2 E) {Kt : V → Hp → Prop}
    (hk : ∀ ρ1 H1 v eh1 u, Ext G.K ρ ρ1 H H1 → HR G ρ1 H1 eh1 → VR G.K ρ1 H1 v u → wr G R2' ρ1 H1 (k v eh1) Q2 E → Kt u H1) : r a b H Kt := by
  refine h ρ H eh x y a b Kt hr hx hy ?_
  cases q : f x y eh with
  | ok v h' =>
    rw [q] at hw
    exact fun ρ' H' u e hr' rv => hk ρ' H' v h' u e hr' rv (hw.mono e)
  | er z h' =>
    rw [q] at hw
    exact hw
  | no =>
    rw [q] at hw
    exact hw
theorem snd_chain {r r' : R2} {f g : D2} {ta tb tc : TE} (hf : Snd2 G E r f) (hg : Snd2 G E r' g) (ha : SndE G E ta da) (hb : SndE G E tb db) (hc : SndE G E tc dc) : SndE G E (tChain r r' ta tb tc) (dChain f g da db dc) := fun ρ σ H es eh Q rel h => by
  refine ha.bind rel h fun ρ1 H1 x eh1 u e1 rel1 v1 h1 => ?_
  refine hb.bind rel1 h1 fun ρ2 H2 y eh2 w e2 rel2 v2 h2 => ?_
  refine hf.bind rel2.hr (v1.mono e2) v2 h2 fun ρ3 H3 z eh3 zz e3 hr3 v3 h3 => ?_
  cases z with
  | bl k =>
    refine ⟨k, vr_bl.mp v3, ?_⟩
    cases k with
    | true =>
      refine iteT (hc.bind (rel2.ext e3 hr3) h3 fun ρ4 H4 q eh4 qq e4 rel4 v4 h4 => ?_)
      exact hg ρ4 H4 eh4 y q w qq Q rel4.hr ((v2.mono e3).mono e4) v4 h4
    | false => exact iteF (h3 ρ3 H3 _ (Ext.refl _ _ _) hr3 (vr_bl.mpr rfl))
  | _ => exact h3.elim
theorem xe_chain {op op' : CmpOp} {f g : D2} (ho : Opd X ct E (compareOp op) f) (ho' : Opd X ct E (compareOp op') g) (ha : PEd X ct E a da) (hb : PEd X ct E b db) (hc : PEd X ct E c dc)
    (hm : lastMarks [op, op'] [b, c] = false := by with_unfolding_all rfl) : PEd X ct E (.Compare a [op, op'] [b, c] pos) (dChain f g da db dc) := by
  obtain ⟨r, h1, h2⟩ := ho
  obtain ⟨r', h1', h2'⟩ := ho'
  obtain ⟨ta, a1, a2⟩ := ha
  obtain ⟨tb, b1, b2⟩ := hb
  obtain ⟨tc, c1, c2⟩ := hc
  exact ⟨_, pe_chain h1 h1' a1 b1 c1 hm, snd_chain h2 h2' a2 b2 c2⟩
theorem xa_cons (ha : PEd X ct E e da) (hr : PAd X ct E es dr) (hs : starEach (e :: es) X.env = (false, eval e X.env) :: starEach es X.env := by rfl) : PAd X ct E (e :: es) (dCons da dr) := by
  obtain ⟨ta, a1, a2⟩ := ha
  obtain ⟨tr, r1, r2⟩ := hr
  exact ⟨_, pa_cons a1 r1 hs, snd_cons a2 r2⟩
theorem xe_callB {x : Str} {p : Pos} {id : String} {f : DL} (hc : Cld X ct E (.builtin id) f) (hg : Gl X x) (hm : X.mg x = none) (hv : bootBuiltins x = some (.builtin id)) (ha : PAd X ct E (e :: es) dr) (hn : x ≠ "__name__" := by decide) (hdb : (x == ("__debug__" : Str)) = false := by decide)
    (he : starEach (e :: es) X.env = (false, eval e X.env) :: starEach es X.env := by rfl) (hpl : (backTo pos (starEach es X.env)).any (·.1) = false := by rfl) : PEd X ct E (.Call (.Name x p) (e :: es) [] pos) (dCB f dr) := by
  obtain ⟨r, h1, h2⟩ := hc
  obtain ⟨ta, a1, a2⟩ := ha
  exact ⟨_, pe_callB h1 hg hm hv a1 hn hdb he hpl, snd_cb h2 a2⟩
theorem xe_callTy {x : Str} {p : Pos} {T : String} {f : DL} (hc : Cld X ct E (.type T) f) (hg : Gl X x) (hm : X.mg x = none) (hv : bootBuiltins x = some (.type T)) (ha : PAd X ct E (e :: es) dr) (hn : x ≠ "__name__" := by decide) (hdb : (x == ("__debug__" : Str)) = false := by decide)
    (he : starEach (e :: es) X.env = (false, eval e X.env) :: starEach es X.env := by rfl) (hpl : (backTo pos (starEach es X.env)).any (·.1) = false := by rfl) : PEd X ct E (.Call (.Name x p) (e :: es) [] pos) (dCB f dr) := by
  obtain ⟨r, h1, h2⟩ := hc
  obtain ⟨ta, a1, a2⟩ := ha
  exact ⟨_, pe_callTy h1 hg hm hv a1 hn hdb he hpl, snd_cb h2 a2⟩
end
inductive Ty where
  | none_ | bool_ | int_ | str_ | list_ | tuple_ | dict_
  deriving DecidableEq
def Ty.nm : Ty → String
  | .none_ => "NoneType" | .bool_ => "bool" | .int_ => "int" | .str_ => "str" | .list_ => "list" | .tuple_ => "tuple" | .dict_ => "dict"
def Ty.isa : Ty → Ty → Bool
  | .bool_, .int_ => true
  | a, b => decide (a = b)
theorem kit_all {K : Fg} : ∀ t c : Ty, PySem.W.kitOne K (.type t.nm) (.type c.nm) = some (t.isa c) := fun t c => kit_ty (by cases t <;> cases c <;> decide +kernel)
def tyOf (h : EH) : EV → Option Ty
  | .non => some .none_
  | .bl _ => some .bool_
  | .int _ => some .int_
  | .str _ => some .str_
  | .tup _ => some .tuple_
  | .ty _ => none
  | .exc _ _ _ _ => none
  | .ref n => match h[n]? with
    | some (.lst _) => some .list_
    | some (.ro _) => some .list_
    | some (.dic _ _) => some .dict_
    | _ => none
theorem tyOf_tx {G : Gx} {ρ : Rho} {H : Hp} {eh : EH} (hr : HR G ρ H eh) {x : EV} {v : V} {t : Ty} (hx : VR G.K ρ H x v) (h : tyOf eh x = some t) : TyX G.K H v (.type t.nm) := by
  cases x with
  | non => rw [vr_non.mp hx]; cases h; exact .base .non
  | bl b => rw [vr_bl.mp hx]; cases h; exact .base (.bl b)
  | int b => rw [vr_int.mp hx]; cases h; exact .base (.int b)
  | str b => rw [vr_str.mp hx]; cases h; exact .base (.str b)
  | tup xs =>
    obtain ⟨a, vs, rfl, e2, e3⟩ := vr_tup.mp hx
    cases h
    exact .base (.tup e2)
  | ty n => cases h
  | exc _ _ _ _ => cases h
  | ref n =>
    obtain ⟨a, ha, rfl⟩ := vr_ref.mp hx
    simp only [tyOf] at h
    split at h
    · rename_i xs e
      cases h
      obtain ⟨a', ha', vs, h2, _⟩ := hr.obj n _ e
      rw [adr_of ha'] at ha; cases ha
      exact .base (.lst h2)
    · rename_i xs e
      cases h
      obtain ⟨a', ha', vs, h2, _⟩ := hr.obj n _ e
      rw [adr_of ha'] at ha; cases ha
      rcases h2 with ⟨o, h2⟩ | ⟨o, its, k, h2, h3, _⟩
      · exact .base (.frz h2)
      · exact .kList h2 h3
    · rename_i t0 xs e
      cases h
      obtain ⟨a', ha', h2⟩ := hr.obj n _ e
      rw [adr_of ha'] at ha; cases ha
      obtain ⟨u, h2, h3⟩ := h2
      cases t0 with
      | false =>
        obtain ⟨l, rfl, _⟩ := h3
        exact .base (.dK h2)
      | true =>
        obtain ⟨l, rfl, _⟩ := h3
        exact .base (.dT h2)
    · cases h
def fIsi (c : Ty) (d : DE) : DE := fun es h => (d es h).bind fun x h1 => match tyOf h1 x with
  | some t => .ok (.bl (t.isa c)) h1
  | none => .no
def fIsi2 (c c' : Ty) (d : DE) : DE := fun es h => (d es h).bind fun x h1 => match tyOf h1 x with
  | some t => .ok (.bl (t.isa c || t.isa c')) h1
  | none => .no
section
variable {X : Cx} {ct : Nat → Addr × List Str} {E : XK} {e : Expr} {pos p q : Pos} {d : DE}
theorem xe_isi (c : Ty) {y : Str} (hg : Gl X "isinstance") (hm : X.mg "isinstance" = none) (hgy : Gl X y) (hmy : X.mg y = none) (hvy : bootBuiltins y = some (.type c.nm)) (he : PEd X ct E e d) (hn : y ≠ "__name__" := by decide) (hdb : (y == ("__debug__" : Str)) = false := by decide)
    (hs1 : starEach [e, .Name y q] X.env = (false, eval e X.env) :: starEach [.Name y q] X.env := by rfl) (hs2 : starEach [.Name y q] X.env = (false, eval (.Name y q) X.env) :: starEach [] X.env := by rfl) (hpl : (backTo pos (starEach [.Name y q] X.env)).any (·.1) = false := by rfl) :
    PEd X ct E (.Call (.Name "isinstance" p) [e, .Name y q] [] pos) (fIsi c d) := by
  obtain ⟨t, h1, h2⟩ := he
  refine ⟨_, pe_callB call_isi hg hm (by decide +kernel) (pa_cons h1 (pa_cons (pe_bltn (v := .ty c.nm) hgy hmy hvy rfl hn hdb) pa_nil hs2) hs1) (by decide) (by decide) hs1 hpl, fun ρ σ H es eh Q rel h => ?_⟩
  refine h2.bind rel h fun ρ1 H1 x eh1 u e1 rel1 v1 h1 => ?_
  split at h1
  · rename_i t ht
    exact ⟨u, .ty c.nm, _, _, t.isa c, rfl, .ty _, tyOf_tx rel1.hr v1 ht, kit_all t c, h1 ρ1 H1 _ (Ext.refl _ _ _) rel1.hr (vr_bl.mpr rfl)⟩
  · exact h1.elim
theorem xe_isi2 (c c' : Ty) {y y' : Str} {k : Nat} {q' qt : Pos} (hg : Gl X "isinstance") (hm : X.mg "isinstance" = none) (hgy : Gl X y) (hmy : X.mg y = none) (hvy : bootBuiltins y = some (.type c.nm)) (hgy' : Gl X y') (hmy' : X.mg y' = none) (hvy' : bootBuiltins y' = some (.type c'.nm)) (he : PEd X ct E e d)
    (hn : y ≠ "__name__" := by decide) (hdb : (y == ("__debug__" : Str)) = false := by decide) (hn' : y' ≠ "__name__" := by decide) (hdb' : (y' == ("__debug__" : Str)) = false := by decide)
    (hs1 : starEach [e, .Tuple [.Name y q, .Name y' q'] k qt] X.env = (false, eval e X.env) :: starEach [.Tuple [.Name y q, .Name y' q'] k qt] X.env := by rfl) (hs2 : starEach [.Tuple [.Name y q, .Name y' q'] k qt] X.env = (false, eval (.Tuple [.Name y q, .Name y' q'] k qt) X.env) :: starEach [] X.env := by rfl)
    (hs3 : starEach [.Name y q, .Name y' q'] X.env = (false, eval (.Name y q) X.env) :: starEach [.Name y' q'] X.env := by rfl) (hs4 : starEach [.Name y' q'] X.env = (false, eval (.Name y' q') X.env) :: starEach [] X.env := by rfl)
    (hpl : (backTo pos (starEach [.Tuple [.Name y q, .Name y' q'] k qt] X.env)).any (·.1) = false := by rfl) :
    PEd X ct E (.Call (.Name "isinstance" p) [e, .Tuple [.Name y q, .Name y' q'] k qt] [] pos) (fIsi2 c c' d) := by
  obtain ⟨t, h1, h2⟩ := he
  refine ⟨_, pe_callB call_isiT hg hm (by decide +kernel) (pa_cons h1 (pa_cons (pe_tup (pa_cons (pe_bltn (v := .ty c.nm) hgy hmy hvy rfl hn hdb) (pa_cons (pe_bltn (v := .ty c'.nm) hgy' hmy' hvy' rfl hn' hdb') pa_nil hs4) hs3)) pa_nil hs2) hs1) (by decide) (by decide) hs1 hpl, fun ρ σ H es eh Q rel h => ?_⟩
  refine h2.bind rel h fun ρ1 H1 x eh1 u e1 rel1 v1 h1 => ?_
  split at h1
  · rename_i t ht
    refine ⟨by show 2 ≤ sizeLine; decide, fun tp hp => ?_⟩
    have hr2 := rel1.hr.side (HO.tup [.ty c.nm, .ty c'.nm]) hp
    refine ⟨u, tp, [.ty c.nm, .ty c'.nm], _, [.type c.nm, .type c'.nm], t.isa c || t.isa c', rfl, upd_same, .cons (.ty _) (.cons (.ty _) .nil), tyOf_tx hr2 (v1.mono (Ext.side _ hp)) ht, ?_, h1 ρ1 _ _ (Ext.side _ hp) hr2 (vr_bl.mpr rfl)⟩
    refine kitAny_cons (kit_all t c) (fun hb => ?_) (fun hb => by rw [hb]; rfl)
    rw [hb, Bool.false_or]
    exact kitAny_cons (kit_all t c') (fun hb2 => by rw [hb2]; rfl) (fun hb2 => hb2)
  · exact h1.elim
end
end EE
set_option Elab.async false
set_option linter.all false
set_option maxRecDepth 100000
set_option maxHeartbeats 1000000
namespace EE
open PySem PySem.Spec PyProof.Rows L2
def dNext : DS := fun es h => .ok (.nx es) h
def dSeq (a b : DS) : DS := fun es h => (a es h).bind fun f h1 => match f with
  | .nx es1 => b es1 h1
  | .rt v => .ok (.rt v) h1
  | .bk e => .ok (.bk e) h1
  | .ct e => .ok (.ct e) h1
def dIfS (t : DT) (a b : DS) : DS := fun es h => (t es h).bind fun c h1 => if c = true then a es h1 else b es h1
def dRet (a : DE) : DS := fun es h => (a es h).bind fun x h1 => .ok (.rt x) h1
def dRetN : DS := fun _ h => .ok (.rt .non) h
def dDrop (a : DE) : DS := fun es h => (a es h).bind fun _ h1 => .ok (.nx es) h1
def dNever : DS := fun _ _ => .no
def dBreak : DS := fun es h => .ok (.bk es) h
def dCont : DS := fun es h => .ok (.ct es) h
abbrev DG := EV → ES → EH → Res ES
abbrev DGs := List EV → ES → EH → Res ES
abbrev DSet := EV → EV → EV → EH → Res Unit
def dName (i : Nat) : DG := fun x es h => .ok (es.set i (some x)) h
def dGNil : DGs := fun xs es h => match xs with
  | [] => .ok es h
  | _ => .no
def dGCons (g : DG) (r : DGs) : DGs := fun xs es h => match xs with
  | x :: xs => (g x es h).bind fun es1 h1 => r xs es1 h1
  | [] => .no
def dGTup (n : Nat) (r : DGs) : DG := fun x es h => match x with
  | .tup xs => if xs.length = n then r xs es h else .no
  | _ => .no
def dGSub (a b : DE) (f : DSet) : DG := fun x es h => (a es h).bind fun o h1 => (b es h1).bind fun i h2 => (f o i x h2).bind fun _ h3 => .ok es h3
def dAsg (a : DE) (g : DG) : DS := fun es h => (a es h).bind fun x h1 => (g x es h1).bind fun es1 h2 => .ok (.nx es1) h2
def dPar (i j : Nat) (a : DA) : DS := fun es h => (a es h).bind fun xs h1 => match xs with
  | [x, y] => .ok (.nx ((es.set i (some x)).set j (some y))) h1
  | _ => .no
def dAug (i : Nat) (a : DE) (f : D2) : DS := fun es h => match es[i]? with
  | some (some x) => (a es h).bind fun y h1 => (f x y h1).bind fun z h2 => .ok (.nx (es.set i (some z))) h2
  | _ => .no
abbrev RS (G : Gx) : Rho → Hp → ES → L2.St → Prop := fun ρ H es σ => SR G.K ρ H es σ
def SndG (G : Gx) (E : XK) (t : TG) (d : DG) : Prop := ∀ ρ σ H es eh x u Q, Rel G ρ σ H es eh → VR G.K ρ H x u → wr G (RS G) ρ H (d x es eh) Q E → t u σ H Q
def SndGs (G : Gx) (E : XK) (t : TGs) (d : DGs) : Prop := ∀ ρ σ H es eh x u Q, Rel G ρ σ H es eh → VRs G.K ρ H x u → wr G (RS G) ρ H (d x es eh) Q E → t u σ H Q
def SndSet (G : Gx) (E : XK) (t : TSet) (d : DSet) : Prop := ∀ ρ H eh o i x a b c Q, HR G ρ H eh → VR G.K ρ H o a → VR G.K ρ H i b → VR G.K ρ H x c → wr G (fun _ _ (_ : Unit) (_ : Unit) => True) ρ H (d o i x eh) (fun _ => Q) E → t a b c H Q
section
variable (X : Cx) (ct : Nat → Addr × List Str) (E : XK)
def PGd (e : Expr) (d : DG) : Prop := ∃ t, PG X e t ∧ SndG ⟨X.K, ct⟩ E t d
def PGsd (e : List Expr) (d : DGs) : Prop := ∃ t, PGs X e t ∧ SndGs ⟨X.K, ct⟩ E t d
def PSetd (d : DSet) : Prop := ∃ t, PSet X t ∧ SndSet ⟨X.K, ct⟩ E t d
end
section
variable {G : Gx} {E : XK}
theorem SndG.bind {t : TG} {d : DG} (h : SndG G E t d) {ρ : Rho} {σ : L2.St} {H : Hp} {es : ES} {eh : EH} (rel : Rel G ρ σ H es eh) {x : EV} {u : V} (hx : VR G.K ρ H x u)
    {γ δ : Type} {R2 : Rho → Hp → γ → δ → Prop} {k : ES → EH → Res γ} {Q2 : δ → Hp → Prop} (hw : wr G R2 ρ H ((d x es eh).bind k) Q2 E) {Kt : L2.St → Hp → Prop}
    (hk : ∀ ρ1 H1 es1 eh1 σ1, Ext G.K ρ ρ1 H H1 → Rel G ρ1 σ1 H1 es1 eh1 → d x es eh = .ok es1 eh1 → wr G R2 ρ1 H1 (k es1 eh1) Q2 E → Kt σ1 H1) : t u σ H Kt := by
  refine h ρ σ H es eh x u Kt rel hx ?_
  cases q : d x es eh with
  | ok v h' =>
    rw [q] at hw
    exact fun ρ' H' u e hr r => hk ρ' H' v h' u e ⟨r, hr⟩ q (hw.mono e)
  | er x h' =>
    rw [q] at hw
    exact hw
  | no =>
    rw [q] at hw
    exact hw
theorem SndGs.bind {t : TGs} {d : DGs} (h : SndGs G E t d) {ρ : Rho} {σ : L2.St} {H : Hp} {es : ES} {eh : EH} (rel : Rel G ρ σ H es eh) {x : List EV} {u : List V} (hx : VRs G.K ρ H x u)
    {γ δ : Type} {R2 : Rho → Hp → γ → δ → Prop} {k : ES → EH → Res γ} {Q2 : δ → Hp → Prop} (hw : wr G R2 ρ H ((d x es eh).bind k) Q2 E) {Kt : L2.St → Hp → Prop}
    (hk : ∀ ρ1 H1 es1 eh1 σ1, Ext G.K ρ ρ1 H H1 → Rel G ρ1 σ1 H1 es1 eh1 → wr G R2 ρ1 H1 (k es1 eh1) Q2 E → Kt σ1 H1) : t u σ H Kt := by
  refine h ρ σ H es eh x u Kt rel hx ?_
  cases q : d x es eh with
  | ok v h' =>
    rw [q] at hw
    exact fun ρ' H' u e hr r => hk ρ' H' v h' u e ⟨r, hr⟩ (hw.mono e)
  | er x h' =>
    rw [q] at hw
    exact hw
  | no =>
    rw [q] at hw
    exact hw
theorem SndS.bind {t : TS} {d : DS} (h : SndS G E t d) {ρ : Rho} {σ : L2.St} {H : Hp} {es : ES} {eh : EH} (rel : Rel G ρ σ H es eh)
    {γ δ : Type} {R2 : Rho → Hp → γ → δ → Prop} {k : Flw → EH → Res γ} {Q2 : δ → Hp → Prop} (hw : wr G R2 ρ H ((d es eh).bind k) Q2 E) {D : Ends}
    (hk : ∀ ρ1 H1 f eh1 vf, Ext G.K ρ ρ1 H H1 → HR G ρ1 H1 eh1 → RF G ρ1 H1 f vf → wr G R2 ρ1 H1 (k f eh1) Q2 E → qD D vf H1) : t D σ H := by
  refine h ρ σ H es eh D rel ?_
  cases q : d es eh with
  | ok v h' =>
    rw [q] at hw
    exact fun ρ' H' u e hr r => hk ρ' H' v h' u e hr r (hw.mono e)
  | er x h' =>
    rw [q] at hw
    exact hw
  | no =>
    rw [q] at hw
    exact hw
theorem snd_next : SndS G E tNext dNext := fun ρ σ H es eh D rel h => h ρ H (.nx σ) (Ext.refl _ _ _) rel.hr rel.sl
theorem snd_seq {t u : TS} {a b : DS} (ha : SndS G E t a) (hb : SndS G E u b) : SndS G E (tSeq t u) (dSeq a b) := fun ρ σ H es eh D rel h => by
  refine ha.bind rel h fun ρ1 H1 f eh1 vf e1 hr1 rf h1 => ?_
  cases f with
  | nx es1 =>
    cases vf with
    | nx σ1 => exact hb ρ1 σ1 H1 es1 eh1 D ⟨rf, hr1⟩ h1
    | _ => exact rf.elim
  | rt v =>
    cases vf with
    | rt w => exact h1 ρ1 H1 (.rt w) (Ext.refl _ _ _) hr1 rf
    | _ => exact rf.elim
  | bk v =>
    cases vf with
    | bk w => exact h1 ρ1 H1 (.bk w) (Ext.refl _ _ _) hr1 rf
    | _ => exact rf.elim
  | ct v =>
    cases vf with
    | ct w => exact h1 ρ1 H1 (.ct w) (Ext.refl _ _ _) hr1 rf
    | _ => exact rf.elim
theorem snd_ifS {tt : TT} {t u : TS} {c : DT} {a b : DS} (hc : SndT G E tt c) (ha : SndS G E t a) (hb : SndS G E u b) : SndS G E (tIfS tt t u) (dIfS c a b) := fun ρ σ H es eh D rel h => by
  refine hc.bind rel h fun ρ1 H1 x eh1 u e1 rel1 v1 h1 => ?_
  subst v1
  cases x with
  | true => exact iteT (ha ρ1 σ H1 es eh1 D rel1 h1)
  | false => exact iteF (hb ρ1 σ H1 es eh1 D rel1 h1)
theorem snd_ret {te : TE} {a : DE} (ha : SndE G E te a) : SndS G E (tRet te) (dRet a) := fun ρ σ H es eh D rel h => by
  refine ha.bind rel h fun ρ1 H1 x eh1 u e1 rel1 v1 h1 => ?_
  exact h1 ρ1 H1 (.rt u) (Ext.refl _ _ _) rel1.hr v1
theorem snd_retN : SndS G E tRetN dRetN := fun ρ σ H es eh D rel h => h ρ H (.rt .non) (Ext.refl _ _ _) rel.hr (show VR G.K ρ H .non .non from vr_non.mpr rfl)
theorem snd_drop {te : TE} {a : DE} (ha : SndE G E te a) : SndS G E (tDrop te) (dDrop a) := fun ρ σ H es eh D rel h => by
  refine ha.bind rel h fun ρ1 H1 x eh1 u e1 rel1 v1 h1 => ?_
  exact h1 ρ1 H1 (.nx σ) (Ext.refl _ _ _) rel1.hr rel1.sl
theorem snd_never : SndS G E tNever dNever := fun ρ σ H es eh D rel h => h
theorem snd_break : SndS G E tBreak dBreak := fun ρ σ H es eh D rel h => h ρ H (.bk σ) (Ext.refl _ _ _) rel.hr rel.sl
theorem snd_cont : SndS G E tCont dCont := fun ρ σ H es eh D rel h => h ρ H (.ct σ) (Ext.refl _ _ _) rel.hr rel.sl
theorem snd_gname {i : Nat} : SndG G E (gName i) (dName i) := fun ρ σ H es eh x u Q rel hx h => h ρ H _ (Ext.refl _ _ _) rel.hr (rel.sl.set i hx)
theorem snd_gnil : SndGs G E gNil dGNil := fun ρ σ H es eh x u Q rel hx h => by
  cases x with
  | nil => exact ⟨vrs_nil.mp hx, h ρ H _ (Ext.refl _ _ _) rel.hr rel.sl⟩
  | cons _ _ => exact h.elim
theorem snd_gcons {t : TG} {u : TGs} {d : DG} {ds : DGs} (h1 : SndG G E t d) (h2 : SndGs G E u ds) : SndGs G E (gCons t u) (dGCons d ds) := fun ρ σ H es eh x us Q rel hx h => by
  cases x with
  | nil => exact h.elim
  | cons x xs =>
    obtain ⟨v, r, rfl, v1, v2⟩ := vrs_cons.mp hx
    refine ⟨v, r, rfl, h1.bind rel v1 h fun ρ1 H1 es1 eh1 σ1 e1 rel1 _ hw => ?_⟩
    exact h2 ρ1 σ1 H1 es1 eh1 xs r Q rel1 (v2.mono e1) hw
theorem snd_gtup {n : Nat} {u : TGs} {ds : DGs} (h2 : SndGs G E u ds) : SndG G E (gTup G.K n u) (dGTup n ds) := fun ρ σ H es eh x us Q rel hx h => by
  cases x with
  | tup xs =>
    obtain ⟨a, vs, rfl, g2, g3⟩ := vr_tup.mp hx
    simp only [dGTup] at h
    split at h
    · rename_i hl
      exact ⟨a, vs, rfl, SqT.of g2, by rw [← g3.length]; exact hl, h2 ρ σ H es eh xs vs Q rel g3 h⟩
    · exact h.elim
  | _ => exact h.elim
theorem snd_gsub {to ti : TE} {t : TSet} {a b : DE} {f : DSet} (ha : SndE G E to a) (hb : SndE G E ti b) (hf : SndSet G E t f) : SndG G E (gSub to ti t) (dGSub a b f) := fun ρ σ H es eh x u Q rel hx h => by
  refine ha.bind rel h fun ρ1 H1 o eh1 w e1 rel1 v1 h1 => ?_
  refine hb.bind rel1 h1 fun ρ2 H2 i eh2 w2 e2 rel2 v2 h2 => ?_
  refine hf ρ2 H2 eh2 o i x w w2 u _ rel2.hr (v1.mono e2) v2 ((hx.mono e1).mono e2) ?_
  cases q : f o i x eh2 with
  | ok v h' =>
    rw [q] at h2
    exact fun ρ' H' u e hr r => h2 ρ' H' σ e hr (rel2.sl.mono e)
  | er z h' =>
    rw [q] at h2
    exact h2
  | no =>
    rw [q] at h2
    exact h2
theorem snd_asg {te : TE} {g : TG} {a : DE} {d : DG} (ha : SndE G E te a) (hg : SndG G E g d) : SndS G E (tAsg te g) (dAsg a d) := fun ρ σ H es eh D rel h => by
  refine ha.bind rel h fun ρ1 H1 x eh1 u e1 rel1 v1 h1 => ?_
  refine hg.bind rel1 v1 h1 fun ρ2 H2 es2 eh2 σ2 e2 rel2 _ h2 => ?_
  exact h2 ρ2 H2 (.nx σ2) (Ext.refl _ _ _) rel2.hr rel2.sl
theorem snd_par {i j : Nat} {ta : TA} {a : DA} (ha : SndA G E ta a) : SndS G E (tPar i j ta) (dPar i j a) := fun ρ σ H es eh D rel h => by
  refine ha.bind rel h fun ρ1 H1 x eh1 u e1 rel1 v1 h1 => ?_
  split at h1
  · rename_i x y
    obtain ⟨v, w, rfl, q1, q2⟩ := vrs_two v1
    exact ⟨v, w, rfl, h1 ρ1 H1 (.nx _) (Ext.refl _ _ _) rel1.hr ((rel1.sl.set i q1).set j q2)⟩
  · exact h1.elim
theorem snd_aug {i : Nat} {te : TE} {ti : TIp} {a : DE} {f : D2} (ha : SndE G E te a) (hf : Snd2 G E ti f) : SndS G E (tAug i te ti) (dAug i a f) := fun ρ σ H es eh D rel h => by
  unfold dAug at h
  split at h
  · rename_i x hx
    obtain ⟨u, h1, h2⟩ := rel.sl.2 i x hx
    refine ⟨u, h1, ha.bind rel h fun ρ1 H1 y eh1 w e1 rel1 v1 h1 => ?_⟩
    refine hf.bind rel1.hr (h2.mono e1) v1 h1 fun ρ2 H2 z eh2 zz e2 hr2 v2 h3 => ?_
    exact h3 ρ2 H2 (.nx _) (Ext.refl _ _ _) hr2 ((rel1.sl.mono e2).set i v2)
  · exact h.elim
end
def sLst : DSet := fun o i x h => match o, i with
  | .ref n, .int k => match mutAt h n with
    | some xs => match ixN xs.length k with
      | some j => .ok () (h.set n (.lst (xs.set j x)))
      | none => .no
    | none => .no
  | _, _ => .no
section
variable {X : Cx} {ct : Nat → Addr × List Str} {E : XK} {G : Gx}
theorem put_lst {ρ : Rho} {H : Hp} {eh : EH} {n : Nat} {a : Addr} {vs us : List V} {ys : List EV} (hr : HR G ρ H eh) (hn : ρ[n]? = some (true, a)) (ha : H a = some (.lst vs)) (hy : VRs G.K ρ H ys us) :
    Ext G.K ρ ρ H (upd H a (.lst us)) ∧ HR G ρ (upd H a (.lst us)) (eh.set n (.lst ys)) := by
  have e : Ext G.K ρ ρ H (upd H a (.lst us)) := Ext.write _ hn ha (fun _ z => by cases z) (fun _ _ z => by cases z) pln_lst
  exact ⟨e, hr.write hn rfl e ⟨us, upd_same, hy.mono e⟩⟩
theorem set_lst : PSetd X ct E sLst := ⟨_, set_list, fun ρ H eh o i x a b c Q hr ho hi hx h => by
  unfold sLst at h
  split at h
  · rename_i n k
    split at h
    · rename_i xs e1
      split at h
      · rename_i j e2
        obtain ⟨a1, vs, g1, g2, g3, g4⟩ := mut_of hr e1
        obtain ⟨a', q1, rfl⟩ := vr_ref.mp ho
        rw [g1] at q1; cases q1
        obtain ⟨e, hr'⟩ := put_lst hr g4 g2 (g3.set hx j)
        exact ⟨a1, vs, k, j, rfl, vr_int.mp hi, g2, by rw [← g3.length]; exact e2, h ρ _ () e hr' trivial⟩
      · exact h.elim
    · exact h.elim
  · exact h.elim⟩
theorem PSetd.or {d d' : DSet} (h : PSetd X ct E d) (h' : PSetd X ct E d') : PSetd X ct E (fun o i x h => (d o i x h).orElse fun _ => d' o i x h) := by
  obtain ⟨r, h1, h2⟩ := h
  obtain ⟨r', h1', h2'⟩ := h'
  refine ⟨fun o i v H Q => r o i v H Q ∨ r' o i v H Q, ?_, fun ρ H eh o i x a b c Q hr ho hi hx h => ?_⟩
  · intro pins s σ H o i v ov iv u Q I ro ri rv q
    rcases q with q | q
    · exact h1 pins s σ H o i v ov iv u Q I ro ri rv q
    · exact h1' pins s σ H o i v ov iv u Q I ro ri rv q
  · rcases wr_or h with h | h
    · exact .inl (h2 ρ H eh o i x a b c Q hr ho hi hx h)
    · exact .inr (h2' ρ H eh o i x a b c Q hr ho hi hx h)
def mApp : EV → DL := fun x xs h => match x, xs with
  | .ref n, [y] => match mutAt h n with
    | some ys => if ys.length < 100000 then .ok .non (h.set n (.lst (ys ++ [y]))) else .no
    | none => .no
  | _, _ => .no
theorem m_app : Mtd X ct E "list.append" mApp := ⟨_, mt_append, fun ρ H eh x a xs as Q hr hx hxs h => by
  unfold mApp at h
  split at h
  · rename_i n y
    split at h
    · rename_i ys e1
      split at h
      · rename_i hl
        obtain ⟨a1, vs, g1, g2, g3, g4⟩ := mut_of hr e1
        obtain ⟨a', q1, rfl⟩ := vr_ref.mp hx
        rw [g1] at q1; cases q1
        obtain ⟨v, rfl, hv⟩ := vrs_one hxs
        obtain ⟨e, hr'⟩ := put_lst hr g4 g2 (g3.append (VRs.one hv))
        exact ⟨a1, vs, v, rfl, rfl, g2, by rw [← g3.length]; exact Nat.lt_of_lt_of_le hl (by decide), h ρ _ _ e hr' (vr_non.mpr rfl)⟩
      · exact h.elim
    · exact h.elim
  · exact h.elim⟩
def dBM (f : EV → DL) (o : DE) (a : DA) : DE := fun es h => (o es h).bind fun x h1 => match x with
  | .ref n => match lstAt h1 n with
    | some _ => (a es h1).bind fun xs h2 => f x xs h2
    | none => .no
  | _ => .no
theorem snd_bmL {r : V → List V → Hp → VK → Prop} {f : EV → DL} {to : TE} {ta : TA} {o : DE} {a : DA} (hr : SndM G E r f) (ho : SndE G E to o) (ha : SndA G E ta a) : SndE G E (tBM G.K "list" r to ta) (dBM f o a) := fun ρ σ H es eh Q rel h => by
  refine ho.bind rel h fun ρ1 H1 x eh1 u e1 rel1 v1 h1 => ?_
  cases x with
  | ref n =>
    simp only at h1
    split at h1
    · rename_i ys e2
      obtain ⟨a1, vs, g1, g2, g3⟩ := lst_of rel1.hr e2
      obtain ⟨a', q1, rfl⟩ := vr_ref.mp v1
      rw [g1] at q1; cases q1
      refine ⟨.inl ⟨rfl, vs, g2⟩, ha.bind rel1 h1 fun ρ2 H2 xs eh2 us e2 rel2 v2 h2 => ?_⟩
      exact hr ρ2 H2 eh2 _ _ xs us Q rel2.hr (v1.mono e2) v2 h2
    · exact h1.elim
  | _ => exact h1.elim
variable {a b c e : Expr} {es rest : List Expr} {pos : Pos} {da db dc : DE} {dt du : DT} {dr : DA} {ds ds' : DS} {st : Stmt} {sts sts' : List Stmt}
theorem xss_nil : PSsd X ct E [] dNext := ⟨_, pss_nil, snd_next⟩
theorem xss_cons (h1 : PSd X ct E st ds) (h2 : PSsd X ct E sts ds') : PSsd X ct E (st :: sts) (dSeq ds ds') := by
  obtain ⟨t, a1, a2⟩ := h1
  obtain ⟨u, b1, b2⟩ := h2
  exact ⟨_, pss_cons a1 b1, snd_seq a2 b2⟩
theorem xss_one (h1 : PSd X ct E st ds) : PSsd X ct E [st] ds := by
  obtain ⟨t, a1, a2⟩ := h1
  exact ⟨_, pss_one a1, a2⟩
theorem xs_pass : PSd X ct E (.Pass pos) dNext := ⟨_, ps_pass, snd_next⟩
theorem xs_break : PSd X ct E (.Break pos) dBreak := ⟨_, ps_break, snd_break⟩
theorem xs_cont : PSd X ct E (.Continue pos) dCont := ⟨_, ps_continue, snd_cont⟩
theorem xs_never : PSd X ct E st dNever := ⟨_, ps_never, snd_never⟩
theorem xss_never : PSsd X ct E sts dNever := ⟨_, pss_never, snd_never⟩
theorem xs_expr (he : PEd X ct E e da) (hs : swapsWith e none pos.line X.env = pure false := by rfl) : PSd X ct E (.Expr e pos) (dDrop da) := by
  obtain ⟨t, a1, a2⟩ := he
  exact ⟨_, ps_expr a1 hs, snd_drop a2⟩
theorem xs_ret (he : PEd X ct E e da) : PSd X ct E (.Return (some e) pos) (dRet da) := by
  obtain ⟨t, a1, a2⟩ := he
  exact ⟨_, ps_ret a1, snd_ret a2⟩
theorem xs_retN : PSd X ct E (.Return none pos) dRetN := ⟨_, ps_retN, snd_retN⟩
theorem xs_if (hc : PTd X ct E c dt) (ha : PSsd X ct E sts ds) (hb : PSsd X ct E sts' ds') : PSd X ct E (.If c sts sts' pos) (dIfS dt ds ds') := by
  obtain ⟨t, a1, a2⟩ := hc
  obtain ⟨u, b1, b2⟩ := ha
  obtain ⟨w, c1, c2⟩ := hb
  exact ⟨_, ps_if a1 b1 c1, snd_ifS a2 b2 c2⟩
theorem xg_name (i : Nat) {x : Str} (hN : X.N.Nodup) (hi : X.N[i]? = some x := by rfl) (hx : Loc X.env.scope x := by first | exact Or.inl rfl | exact Or.inr rfl) (hf : X.fn x = true ∨ X.env.scope.names.lookup x = some .local := by first | exact .inl rfl | exact .inr rfl | assumption) : PGd X ct E (.Name x pos) (dName i) :=
  ⟨_, pg_name hN hi hx hf, snd_gname⟩
theorem xgs_nil : PGsd X ct E [] dGNil := ⟨_, pgs_nil, snd_gnil⟩
theorem xgs_cons {d : DG} {d' : DGs} (h1 : PGd X ct E e d) (h2 : PGsd X ct E es d') (hs : (assignEach (e :: es) X.env).map (·.2) = assign e X.env :: (assignEach es X.env).map (·.2) := by rfl) : PGsd X ct E (e :: es) (dGCons d d') := by
  obtain ⟨t, a1, a2⟩ := h1
  obtain ⟨u, b1, b2⟩ := h2
  exact ⟨_, pgs_cons a1 b1 hs, snd_gcons a2 b2⟩
theorem xg_tup {k n : Nat} {d' : DGs} (hc : X.calm = true) (h : PGsd X ct E es d') (hn : (assignEach es X.env).length = n := by rfl) (hst : (assignEach es X.env).findIdx? (·.1) = none := by rfl) : PGd X ct E (.Tuple es k pos) (dGTup n d') := by
  obtain ⟨t, a1, a2⟩ := h
  exact ⟨_, pg_tup hc a1 hn hst, snd_gtup a2⟩
theorem xg_sub {f : DSet} (ha : PEd X ct E a da) (hb : PEd X ct E b db) (hf : PSetd X ct E f) (hh : ∀ v, assign (.Subscript a b pos) X.env v = (do
      let ov ← holding [v] (eval a X.env)
      let iv ← holding [v, ov] (eval b X.env)
      standAt pos
      holding [v, ov, iv] (setItem ov iv v)
      release [v, ov, iv] []) := by intro _; rfl) : PGd X ct E (.Subscript a b pos) (dGSub da db f) := by
  obtain ⟨t, a1, a2⟩ := ha
  obtain ⟨u, b1, b2⟩ := hb
  obtain ⟨w, c1, c2⟩ := hf
  exact ⟨_, pg_sub a1 b1 c1 hh, snd_gsub a2 b2 c2⟩
theorem xs_asg {tg : Expr} {d : DG} (he : PEd X ct E e da) (hg : PGd X ct E tg d) (hs : swapsWithSole [tg] e pos.line X.env = pure false := by rfl) (hw : swappedStores [tg] e X.env = pure none := by rfl)
    (h1 : (assignEach [tg] X.env).map (·.2) = [assign tg X.env] := by rfl) : PSd X ct E (.Assign [tg] e pos) (dAsg da d) := by
  obtain ⟨t, a1, a2⟩ := he
  obtain ⟨u, b1, b2⟩ := hg
  exact ⟨_, ps_asg a1 b1 hs hw h1, snd_asg a2 b2⟩
theorem xs_set (i : Nat) {x : Str} {pos' : Pos} (hN : X.N.Nodup) (he : PEd X ct E e da) (hi : X.N[i]? = some x := by rfl) (hx : Loc X.env.scope x := by first | exact Or.inl rfl | exact Or.inr rfl) (hs : swapsWith e (some (.Name x pos')) pos.line X.env = pure false := by rfl)
    (hf : X.fn x = true ∨ X.env.scope.names.lookup x = some .local := by first | exact .inl rfl | exact .inr rfl | assumption) : PSd X ct E (.Assign [.Name x pos'] e pos) (dAsg da (dName i)) := by
  obtain ⟨t, a1, a2⟩ := he
  exact ⟨_, ps_set hN hi hx a1 hs hf, snd_asg a2 snd_gname⟩
theorem xs_par (i j : Nat) {x y : Str} {px py pt : Pos} {kt k2 pt2} (hc : X.calm = true) (hN : X.N.Nodup) (ha : PAd X ct E [a, b] dr) (hw : swappedStores [.Tuple [.Name x px, .Name y py] kt pt] (.Tuple [a, b] k2 pt2) X.env = pure (some [x, y]))
    (hi : X.N[i]? = some x := by rfl) (hj : X.N[j]? = some y := by rfl) (hij : i ≠ j := by decide) (hx : X.env.scope.names.lookup x = some .local := by rfl) (hy : X.env.scope.names.lookup y = some .local := by rfl)
    (hs : swapsWithSole [.Tuple [.Name x px, .Name y py] kt pt] (.Tuple [a, b] k2 pt2) pos.line X.env = pure false := by rfl) : PSd X ct E (.Assign [.Tuple [.Name x px, .Name y py] kt pt] (.Tuple [a, b] k2 pt2) pos) (dPar i j dr) := by
  obtain ⟨t, a1, a2⟩ := ha
  exact ⟨_, ps_par hc hN hi hj hij hx hy a1 hw hs, snd_par a2⟩
theorem xs_aug (i : Nat) {x : Str} {op : Operator} {f : D2} {pos' : Pos} (hN : X.N.Nodup) (he : PEd X ct E e da) (ho : Opd X ct E (inplaceOp op) f) (hi : X.N[i]? = some x := by rfl) (hx : Loc X.env.scope x := by first | exact Or.inl rfl | exact Or.inr rfl)
    (hf : X.fn x = true ∨ X.env.scope.names.lookup x = some .local := by first | exact .inl rfl | exact .inr rfl | assumption) : PSd X ct E (.AugAssign (.Name x pos') op e pos) (dAug i da f) := by
  obtain ⟨t, a1, a2⟩ := he
  obtain ⟨r, b1, b2⟩ := ho
  exact ⟨_, ps_aug hN hi hx a1 b1 hf, snd_aug a2 b2⟩
theorem o_iadd : Opd X ct E (inplaceOp .Add) fAddI := ⟨_, iop_add, snd_I0 fun _ _ _ _ => vr_int.mpr rfl⟩
theorem o_isub : Opd X ct E (inplaceOp .Sub) fSub := ⟨_, iop_sub, snd_I0 fun _ _ _ _ => vr_int.mpr rfl⟩
theorem xe_bmL {name : Str} {apos cpos : Pos} {id : String} {f : EV → DL} (pa : PlainAttrs "list") (slot : Slot "list" name id) (hty : typeOf (.builtin id) = pure (.type "method_descriptor")) (hm : Mtd X ct E id f) (ho : PEd X ct E a da) (ha : PAd X ct E (e :: es) dr)
    (hbase : attributeBase a name X.env (eval a X.env) = eval a X.env := by rfl)
    (hfew : ((backTo cpos (starEach (e :: es) X.env)).all (fun x => !x.1) && (backToKw cpos (keywordEach [] X.env)).all (fun x => x.1.isSome)
      && decide ((e :: es).length + ([] : List Keyword).length + (if ([] : List Keyword).isEmpty then 0 else 1) < 30)) = true := by rfl)
    (hline : (apos.endLine == cpos.line) = true := by rfl) (hs : starEach (e :: es) X.env = (false, eval e X.env) :: starEach es X.env := by rfl) (hplain : (backTo cpos (starEach es X.env)).any (·.1) = false := by rfl) :
    PEd X ct E (.Call (.Attribute a name apos) (e :: es) [] cpos) (dBM f da dr) := by
  obtain ⟨r, m1, m2⟩ := hm
  obtain ⟨t, a1, a2⟩ := ho
  obtain ⟨u, b1, b2⟩ := ha
  exact ⟨_, pe_bm pa slot hty m1 a1 b1 hbase hfew hline hs hplain, snd_bmL m2 a2 b2⟩
theorem xe_append {apos cpos : Pos} (ho : PEd X ct E a da) (ha : PAd X ct E [e] dr)
    (hbase : attributeBase a "append" X.env (eval a X.env) = eval a X.env := by rfl)
    (hfew : ((backTo cpos (starEach [e] X.env)).all (fun x => !x.1) && (backToKw cpos (keywordEach [] X.env)).all (fun x => x.1.isSome)
      && decide ([e].length + ([] : List Keyword).length + (if ([] : List Keyword).isEmpty then 0 else 1) < 30)) = true := by rfl)
    (hline : (apos.endLine == cpos.line) = true := by rfl) (hs : starEach [e] X.env = (false, eval e X.env) :: starEach [] X.env := by rfl) (hplain : (backTo cpos (starEach [] X.env)).any (·.1) = false := by rfl) :
    PEd X ct E (.Call (.Attribute a "append" apos) [e] [] cpos) (dBM mApp da dr) := xe_bmL PySem.F.plainAttrs_list PySem.F.slot_list_append PySem.F.type_list_append m_app ho ha hbase hfew hline hs hplain
end
structure Wlk where
  src : Option Nat
  xs : List EV
  tl : Nat → EV → EV
def Wlk.cur (it : Wlk) (h : EH) : Option (List EV) := match it.src with
  | none => some it.xs
  | some n => lstAt h n
def JR (G : Gx) (ρ0 : Rho) (H0 : Hp) (it : Wlk) (J : It) : Prop := ∀ ρ H eh xs, Ext G.K ρ0 ρ H0 H → HR G ρ H eh → it.cur eh = some xs →
  (∀ (i : Nat) (x : EV), xs[i]? = some x → J.go i H ∧ ∀ y H', J.yld i H y H' → Ext G.K ρ ρ H H' ∧ HR G ρ H' eh ∧ VR G.K ρ H' (it.tl i x) y) ∧ (∀ (i : Nat), xs[i]? = none → J.stop i H)
abbrev DI := ES → EH → Res Wlk
abbrev SndI (G : Gx) (E : XK) (t : TI) (d : DI) : Prop := Sound G E (JR G) t d
def forGo (it : Wlk) (g : DG) (b : DS) : Nat → Nat → DS
  | 0, _, _, _ => .no
  | m + 1, i, es, h => match it.cur h with
    | none => .no
    | some xs => match xs[i]? with
      | none => .ok (.nx es) h
      | some x => (g (it.tl i x) es h).bind fun es1 h1 => (b es1 h1).bind fun f h2 => match f with
        | .nx es2 => forGo it g b m (i + 1) es2 h2
        | .ct es2 => forGo it g b m (i + 1) es2 h2
        | .bk es2 => .ok (.nx es2) h2
        | .rt v => .ok (.rt v) h2
def dFor (di : DI) (g : DG) (b : DS) : DS := fun es h => (di es h).bind fun it h1 => match it.cur h1 with
  | none => .no
  | some xs => forGo it g b (xs.length + 1) 0 es h1
def dItL (a : DE) : DI := fun es h => (a es h).bind fun x h1 => match x with
  | .ref n => match lstAt h1 n with
    | some _ => .ok ⟨some n, [], fun _ x => x⟩ h1
    | none => .no
  | _ => .no
def dItT (a : DE) : DI := fun es h => (a es h).bind fun x h1 => match x with
  | .tup xs => .ok ⟨none, xs, fun _ x => x⟩ h1
  | _ => .no
def rng (lo : Int) (n : Nat) : List EV := (List.range n).map fun (i : Nat) => .int (lo + i)
def dItR1 (a : DA) : DI := fun es h => (a es h).bind fun xs h1 => match xs with
  | [.int n] => if decide (-100000 ≤ n) && decide (n ≤ 100000) = true then .ok ⟨none, rng 0 n.toNat, fun _ x => x⟩ h1 else .no
  | _ => .no
def dItR2 (a : DA) : DI := fun es h => (a es h).bind fun xs h1 => match xs with
  | [.int lo, .int n] => if decide (-100000 ≤ n) && decide (n ≤ 100000) && decide (-100000 ≤ lo) && decide (lo ≤ 100000) = true then .ok ⟨none, rng lo (n - lo).toNat, fun _ x => x⟩ h1 else .no
  | _ => .no
section
variable {X : Cx} {ct : Nat → Addr × List Str} {E : XK} {G : Gx}
theorem jr_lst {ρ : Rho} {H : Hp} {n : Nat} {a : Addr} (h : adr ρ n = some a) : JR G ρ H ⟨some n, [], fun _ x => x⟩ (Itl G.K a) := fun ρ' H' eh xs e hr hc => by
  obtain ⟨a', vs, g1, g2, g3⟩ := lst_of hr (show lstAt eh n = some xs from hc)
  rw [e.get h] at g1; cases g1
  refine ⟨fun i x hx => ?_, fun i hx => ⟨vs, g2, ?_⟩⟩
  · obtain ⟨v, h1, h2⟩ := g3.get hx
    refine ⟨⟨vs, v, g2, h1⟩, fun y H2 hy => ?_⟩
    obtain ⟨rfl, hy⟩ := hy
    have := hy vs g2
    rw [h1] at this
    cases this
    exact ⟨Ext.refl _ _ _, hr, h2⟩
  · rw [← g3.length]
    exact List.getElem?_eq_none_iff.mp hx
theorem jr_tup {ρ : Rho} {H : Hp} {a : Addr} {xs : List EV} {vs : List V} (h : H a = some (.tup vs)) (hv : VRs G.K ρ H xs vs) : JR G ρ H ⟨none, xs, fun _ x => x⟩ (Itt G.K a) := fun ρ' H' eh ys e hr hc => by
  cases hc
  have g2 := e.tup _ _ h
  have g3 := hv.mono e
  refine ⟨fun i x hx => ?_, fun i hx => ⟨vs, SqT.of g2, ?_⟩⟩
  · obtain ⟨v, h1, h2⟩ := g3.get hx
    refine ⟨⟨vs, v, SqT.of g2, h1⟩, fun y H2 hy => ?_⟩
    obtain ⟨rfl, hy⟩ := hy
    have := hy vs (SqT.of g2)
    rw [h1] at this
    cases this
    exact ⟨Ext.refl _ _ _, hr, h2⟩
  · rw [← g3.length]
    exact List.getElem?_eq_none_iff.mp hx
theorem rng_get {lo : Int} {n i : Nat} {x : EV} (h : (rng lo n)[i]? = some x) : i < n ∧ x = .int (lo + i) := by
  unfold rng at h
  rw [List.getElem?_map] at h
  obtain ⟨j, h1, rfl⟩ := Option.map_eq_some_iff.mp h
  obtain ⟨h2, h3⟩ := List.getElem?_eq_some_iff.mp h1
  simp only [List.length_range] at h2
  simp only [List.getElem_range] at h3
  subst h3
  exact ⟨h2, rfl⟩
theorem rng_len (lo : Int) (n : Nat) : (rng lo n).length = n := by simp [rng]
theorem jr_rng {ρ : Rho} {H : Hp} {lo : Int} {n : Nat} : JR G ρ H ⟨none, rng lo n, fun _ x => x⟩ (Itr lo n) := fun ρ' H' eh ys e hr hc => by
  cases hc
  refine ⟨fun i x hx => ?_, fun i hx => ?_⟩
  · obtain ⟨h1, rfl⟩ := rng_get hx
    refine ⟨h1, fun y H2 hy => ?_⟩
    obtain ⟨rfl, rfl⟩ := hy
    exact ⟨Ext.refl _ _ _, hr, vr_int.mpr rfl⟩
  · have := List.getElem?_eq_none_iff.mp hx
    rw [rng_len] at this
    exact this
theorem snd_itL {tl : TE} {a : DE} (ha : SndE G E tl a) : SndI G E (iList G.K tl) (dItL a) := fun ρ σ H es eh Q rel h => by
  refine ha.bind rel h fun ρ1 H1 x eh1 u e1 rel1 v1 h1 => ?_
  cases x with
  | ref n =>
    simp only at h1
    split at h1
    · rename_i xs e2
      obtain ⟨a1, vs, g1, g2, g3⟩ := lst_of rel1.hr e2
      obtain ⟨a', q1, rfl⟩ := vr_ref.mp v1
      rw [g1] at q1; cases q1
      exact ⟨a1, rfl, ⟨vs, g2⟩, h1 ρ1 H1 _ (Ext.refl _ _ _) rel1.hr (jr_lst g1)⟩
    · exact h1.elim
  | _ => exact h1.elim
theorem snd_itT {tl : TE} {a : DE} (ha : SndE G E tl a) : SndI G E (iTup G.K tl) (dItT a) := fun ρ σ H es eh Q rel h => by
  refine ha.bind rel h fun ρ1 H1 x eh1 u e1 rel1 v1 h1 => ?_
  cases x with
  | tup xs =>
    obtain ⟨a1, vs, rfl, g2, g3⟩ := vr_tup.mp v1
    exact ⟨a1, rfl, ⟨vs, SqT.of g2⟩, h1 ρ1 H1 _ (Ext.refl _ _ _) rel1.hr (jr_tup g2 g3)⟩
  | _ => exact h1.elim
theorem snd_itR1 {ta : TA} {a : DA} (ha : SndA G E ta a) : SndI G E (iRng1 ta) (dItR1 a) := fun ρ σ H es eh Q rel h => by
  refine ha.bind rel h fun ρ1 H1 x eh1 u e1 rel1 v1 h1 => ?_
  split at h1
  · rename_i n
    split at h1
    · rename_i hc
      simp only [Bool.and_eq_true, decide_eq_true_eq] at hc
      obtain ⟨v, rfl, hv⟩ := vrs_one v1
      rw [vr_int.mp hv]
      exact ⟨n, rfl, by omega, by omega, h1 ρ1 H1 _ (Ext.refl _ _ _) rel1.hr jr_rng⟩
    · exact h1.elim
  · exact h1.elim
theorem snd_itR2 {ta : TA} {a : DA} (ha : SndA G E ta a) : SndI G E (iRng2 ta) (dItR2 a) := fun ρ σ H es eh Q rel h => by
  refine ha.bind rel h fun ρ1 H1 x eh1 u e1 rel1 v1 h1 => ?_
  split at h1
  · rename_i lo n
    split at h1
    · rename_i hc
      simp only [Bool.and_eq_true, decide_eq_true_eq] at hc
      obtain ⟨v, w, rfl, hv, hw⟩ := vrs_two v1
      rw [vr_int.mp hv, vr_int.mp hw]
      exact ⟨lo, n, rfl, ⟨by omega, by omega, by omega, by omega⟩, h1 ρ1 H1 _ (Ext.refl _ _ _) rel1.hr jr_rng⟩
    · exact h1.elim
  · exact h1.elim
theorem snd_for {wi : TI} {g : TG} {tb : TS} {di : DI} {dg : DG} {b : DS} (hi : SndI G E wi di) (hg : SndG G E g dg) (hb : SndS G E tb b) : SndS G E (tFor wi g tb) (dFor di dg b) := fun ρ σ H es eh D rel h => by
  refine hi.bind rel h fun ρ1 H1 it eh1 J e1 rel1 jr h1 => ?_
  split at h1
  · exact h1.elim
  · rename_i xs0 _
    refine ⟨fun i m σ H => ∃ ρ' es eh, Ext G.K ρ1 ρ' H1 H ∧ Rel G ρ' σ H es eh ∧ wr G (RF G) ρ' H (forGo it dg b m i es eh) (qD D) E, ⟨_, ρ1, es, eh1, Ext.refl _ _ _, rel1, h1⟩, ?_⟩
    rintro i m σ' H' ⟨ρ', es', eh', e', rel', hw⟩
    cases m with
    | zero => exact hw.elim
    | succ m =>
      unfold forGo at hw
      split at hw
      · exact hw.elim
      · rename_i xs hxs
        obtain ⟨j1, j2⟩ := jr ρ' H' eh' xs e' rel'.hr hxs
        split at hw
        · rename_i hn
          exact .inl ⟨j2 i hn, hw ρ' H' (.nx σ') (Ext.refl _ _ _) rel'.hr rel'.sl⟩
        · rename_i x hx
          obtain ⟨go, yl⟩ := j1 i x hx
          refine .inr ⟨go, fun σ2 H2 => ∃ ρ2 es2 eh2, Ext G.K ρ1 ρ2 H1 H2 ∧ Rel G ρ2 σ2 H2 es2 eh2 ∧ wr G (RF G) ρ2 H2 (forGo it dg b m (i + 1) es2 eh2) (qD D) E, fun σ2 H2 q => ⟨m, Nat.lt_succ_self m, q⟩, fun y H3 hy => ?_⟩
          obtain ⟨e3, hr3, v3⟩ := yl y H3 hy
          refine hg.bind (rel'.ext e3 hr3) v3 (hw.mono e3) fun ρ4 H4 es4 eh4 σ4 e4 rel4 _ h4 => ?_
          refine hb.bind rel4 h4 fun ρ5 H5 f eh5 vf e5 hr5 rf h5 => ?_
          have et := ((e'.trans e3).trans e4).trans e5
          cases f with
          | nx es5 =>
            cases vf with
            | nx σ5 => exact ⟨ρ5, es5, eh5, et, ⟨rf, hr5⟩, h5⟩
            | _ => exact rf.elim
          | ct es5 =>
            cases vf with
            | ct σ5 => exact ⟨ρ5, es5, eh5, et, ⟨rf, hr5⟩, h5⟩
            | _ => exact rf.elim
          | bk es5 =>
            cases vf with
            | bk σ5 => exact h5 ρ5 H5 (.nx σ5) (Ext.refl _ _ _) hr5 rf
            | _ => exact rf.elim
          | rt v =>
            cases vf with
            | rt w => exact h5 ρ5 H5 (.rt w) (Ext.refl _ _ _) hr5 rf
            | _ => exact rf.elim
def PId (X : Cx) (ct : Nat → Addr × List Str) (E : XK) (tg iter : Expr) (d : DI) : Prop := ∃ t, PI X tg iter t ∧ SndI ⟨X.K, ct⟩ E t d
variable {tg iter a b : Expr} {da db : DE} {dr : DA} {di : DI} {dg : DG} {ds : DS} {body : List Stmt} {pos p : Pos}
theorem xi_list (h : PEd X ct E a da) : PId X ct E tg a (dItL da) := by
  obtain ⟨t, h1, h2⟩ := h
  exact ⟨_, pi_list h1, snd_itL h2⟩
theorem xi_tup (h : PEd X ct E a da) : PId X ct E tg a (dItT da) := by
  obtain ⟨t, h1, h2⟩ := h
  exact ⟨_, pi_tup h1, snd_itT h2⟩
theorem xi_rng1 (hg : Gl X "range") (hm : X.mg "range" = none) (ha : PAd X ct E [a] dr) (hs : starEach [a] X.env = [(false, eval a X.env)] := by rfl) : PId X ct E tg (.Call (.Name "range" p) [a] [] pos) (dItR1 dr) := by
  obtain ⟨t, h1, h2⟩ := ha
  exact ⟨_, pi_range1 hg hm h1 hs, snd_itR1 h2⟩
theorem xi_rng2 (hg : Gl X "range") (hm : X.mg "range" = none) (ha : PAd X ct E [a, b] dr) (hs : starEach [a, b] X.env = [(false, eval a X.env), (false, eval b X.env)] := by rfl) (hs2 : starEach [b] X.env = [(false, eval b X.env)] := by rfl) :
    PId X ct E tg (.Call (.Name "range" p) [a, b] [] pos) (dItR2 dr) := by
  obtain ⟨t, h1, h2⟩ := ha
  exact ⟨_, pi_range2 hg hm h1 hs hs2, snd_itR2 h2⟩
theorem xs_for (hp : PassesOwn (model X.prog X.w) X.A X.env X.xe) (hc : X.calm = true) (hi : PId X ct E tg iter di) (hg : PGd X ct E tg dg) (hb : PSsd X ct E body ds)
    (hs : ∀ x, foldedSetIterable iter X.env x = pure x := by intro _; rfl) : PSd X ct E (.For tg iter body [] pos) (dFor di dg ds) := by
  obtain ⟨t, a1, a2⟩ := hi
  obtain ⟨u, b1, b2⟩ := hg
  obtain ⟨w, c1, c2⟩ := hb
  exact ⟨_, ps_for hp hc a1 b1 c1 hs, snd_for a2 b2 c2⟩
end
def lcGo (it : Wlk) (g : DG) (t : DT) (e : DE) (vs : List Nat) : Nat → Nat → List EV → ES → EH → Res (List EV)
  | 0, _, _, _, _ => .no
  | m + 1, i, acc, es, h => match it.cur h with
    | none => .no
    | some xs => match xs[i]? with
      | none => .ok acc h
      | some x => (g (it.tl i x) (wip es vs) h).bind fun es1 h1 => (t es1 h1).bind fun b h2 => if b = true then (e es1 h2).bind fun y h3 => (if acc.length < 50000 then lcGo it g t e vs m (i + 1) (acc ++ [y]) es h3 else .no) else lcGo it g t e vs m (i + 1) acc es h2
def dLc (di : DI) (g : DG) (t : DT) (e : DE) (vs : List Nat) : DE := fun es h => (di es h).bind fun it h1 => match it.cur h1 with
  | none => .no
  | some xs => (lcGo it g t e vs (xs.length + 1) 0 [] es h1).bind fun ys h2 => .ok (.ref h2.length) (h2 ++ [.lst ys])
def OnlyIn (g : TG) (vs : List Nat) : Prop := ∀ (τ : L2.St) (v : V) (σ : L2.St) (H : Hp) (Q Q' : L2.St → Hp → Prop), wipe σ vs = τ → (∀ σ2 H2, wipe σ2 vs = τ → Q σ2 H2 → Q' σ2 H2) → g v σ H Q → g v σ H Q'
def OnlyIns (g : TGs) (vs : List Nat) : Prop := ∀ (τ : L2.St) (v : List V) (σ : L2.St) (H : Hp) (Q Q' : L2.St → Hp → Prop), wipe σ vs = τ → (∀ σ2 H2, wipe σ2 vs = τ → Q σ2 H2 → Q' σ2 H2) → g v σ H Q → g v σ H Q'
theorem wipe_set {σ : L2.St} {i : Nat} {x : Option V} : ∀ {vs : List Nat}, i ∈ vs → wipe (σ.set i x) vs = wipe σ vs := by
  have comm : ∀ (vs : List Nat) (σ : L2.St) (i : Nat), i ∉ vs → ∀ x, wipe (σ.set i x) vs = (wipe σ vs).set i x := by
    intro vs
    induction vs with
    | nil => intro σ i _ x; rfl
    | cons v vs ih =>
      intro σ i hi x
      simp only [List.mem_cons, not_or] at hi
      show (wipe (σ.set i x) vs).set v none = ((wipe σ vs).set v none).set i x
      rw [ih σ i hi.2 x, List.set_comm _ _ hi.1]
  intro vs hi
  induction vs with
  | nil => cases hi
  | cons v vs ih =>
    show (wipe (σ.set i x) vs).set v none = (wipe σ vs).set v none
    by_cases h : i ∈ vs
    · rw [ih h]
    · have e : i = v := by
        rcases List.mem_cons.mp hi with e | e
        · exact e
        · exact absurd e h
      subst e
      rw [comm vs σ i h x, List.set_set]
theorem wipe_wipe {σ : L2.St} : ∀ vs : List Nat, wipe (wipe σ vs) vs = wipe σ vs := by
  have key : ∀ (ws vs : List Nat), (∀ v ∈ ws, v ∈ vs) → wipe (wipe σ ws) vs = wipe σ vs := by
    intro ws
    induction ws with
    | nil => intro vs _; rfl
    | cons w ws ih =>
      intro vs h
      show wipe ((wipe σ ws).set w none) vs = wipe σ vs
      rw [wipe_set (h w List.mem_cons_self)]
      exact ih vs fun v hv => h v (List.mem_cons_of_mem _ hv)
  exact fun vs => key vs vs fun _ h => h
theorem only_name {i : Nat} {vs : List Nat} (h : i ∈ vs) : OnlyIn (gName i) vs := fun τ v σ H Q Q' hw hq q => hq _ _ ((wipe_set h).trans hw) q
theorem only_nil {vs : List Nat} : OnlyIns gNil vs := fun τ v σ H Q Q' hw hq q => ⟨q.1, hq _ _ hw q.2⟩
theorem only_cons {g : TG} {u : TGs} {vs : List Nat} (h : OnlyIn g vs) (hu : OnlyIns u vs) : OnlyIns (gCons g u) vs := fun τ xs σ H Q Q' hw hq q => by
  obtain ⟨v, r, e, q⟩ := q
  exact ⟨v, r, e, h τ v σ H _ _ hw (fun σ1 H1 w1 q1 => hu τ r σ1 H1 Q Q' w1 hq q1) q⟩
theorem only_tup {K : Fg} {n : Nat} {u : TGs} {vs : List Nat} (hu : OnlyIns u vs) : OnlyIn (gTup K n u) vs := fun τ v σ H Q Q' hw hq q => by
  obtain ⟨a, xs, e, h1, hl, q⟩ := q
  exact ⟨a, xs, e, h1, hl, hu τ xs σ H Q Q' hw hq q⟩
section
variable {X : Cx} {ct : Nat → Addr × List Str} {E : XK} {G : Gx}
theorem SR.bare {K : Fg} {ρ : Rho} {H H' : Hp} {es : ES} {σ : L2.St} (e : Ext0 K ρ ρ H H') (h : SR K ρ H es σ) : SR K ρ H' es σ := ⟨h.1, fun i v hv => by
  obtain ⟨u, h1, h2⟩ := h.2 i v hv
  exact ⟨u, h1, VR.mono0 e _ _ h2⟩⟩
theorem ext0_upd {K : Fg} {ρ : Rho} {H : Hp} {p : Addr} {xs : List V} {u : HO} (h : H p = some (.lst xs)) : Ext0 K ρ ρ H (upd H p u) where
  pre := ⟨[], by simp⟩
  xd := fun a ys q => by
    rw [upd_ne (fun z => by subst z; rw [h] at q; cases q)]
    exact q
  tup := fun a ys q => by
    rw [upd_ne]
    · exact q
    · intro z
      subst z
      rw [h] at q
      cases q
  frz := fun a o v q => by
    rw [upd_ne]
    · exact q
    · intro z
      subst z
      rw [h] at q
      cases q
theorem snd_lc {wi : TI} {g : TG} {tt : TT} {te : TE} {vs : List Nat} {di : DI} {dg : DG} {dt : DT} {de : DE} (hi : SndI G E wi di) (hg : SndG G E g dg) (ho : OnlyIn g vs) (ht : SndT G E tt dt) (he : SndE G E te de) : SndE G E (tLc wi g tt te vs) (dLc di dg dt de vs) := fun ρ σ H es eh Q rel h => by
  refine hi.bind rel h fun ρ1 H1 it eh1 J e1 rel1 jr h1 => ?_
  split at h1
  · exact h1.elim
  · rename_i xs0 _
    intro Dl hD
    refine ⟨fun i m H => ∃ ρ' eh acc us, Ext G.K ρ1 ρ' H1 H ∧ HR G ρ' H eh ∧ (true, Dl) ∉ ρ' ∧ H Dl = some (.lst us) ∧ VRs G.K ρ' H acc us ∧
      wr G (VR G.K) ρ1 H1 ((lcGo it dg dt de vs m i acc es eh).bind fun ys h2 => .ok (.ref h2.length) (h2 ++ [.lst ys])) Q E,
      ⟨_, ρ1, eh1, [], [], Ext.side _ hD, rel1.hr.side _ hD, rel1.hr.fresh hD, upd_same, vrs_nil.mpr rfl, h1⟩, ?_⟩
    rintro i m H' ⟨ρ', eh', acc, us, e', hr', hn, hDl, hacc, hw⟩
    cases m with
    | zero => exact hw.elim
    | succ m =>
      unfold lcGo at hw
      split at hw
      · exact hw.elim
      · rename_i xs hxs
        obtain ⟨j1, j2⟩ := jr ρ' H' eh' xs e' hr' hxs
        split at hw
        · rename_i hnone
          refine .inl ⟨j2 i hnone, ?_⟩
          have e5 := e'.push hD
          have e0 : Ext0 G.K ρ' (ρ' ++ [(true, Dl)]) H' H' := ⟨⟨[(true, Dl)], rfl⟩, fun _ _ q => q, fun _ _ _ q => q, fun _ _ q => q⟩
          exact hw (ρ' ++ [(true, Dl)]) H' _ e5 (hr'.push hn rfl ⟨us, hDl, VRs.mono0 e0 _ _ hacc⟩) (vr_ref.mpr ⟨Dl, last_get hr'.len, rfl⟩)
        · rename_i x hx
          obtain ⟨go, yl⟩ := j1 i x hx
          refine .inr ⟨go, fun H2 => ∃ ρ2 eh2 acc2 us2, Ext G.K ρ1 ρ2 H1 H2 ∧ HR G ρ2 H2 eh2 ∧ (true, Dl) ∉ ρ2 ∧ H2 Dl = some (.lst us2) ∧ VRs G.K ρ2 H2 acc2 us2 ∧
            wr G (VR G.K) ρ1 H1 ((lcGo it dg dt de vs m (i + 1) acc2 es eh2).bind fun ys h2 => .ok (.ref h2.length) (h2 ++ [.lst ys])) Q E, fun H2 q => ⟨m, Nat.lt_succ_self m, q⟩, fun y H3 hy => ?_⟩
          obtain ⟨e3, hr3, v3⟩ := yl y H3 hy
          have keepD : ∀ {ρa ρb : Rho} {Ha Hb : Hp} {vs : List V}, Ext G.K ρa ρb Ha Hb → (true, Dl) ∉ ρa → Ha Dl = some (.lst vs) → (true, Dl) ∉ ρb ∧ Hb Dl = some (.lst vs) := fun e hn h => by
            refine ⟨fun hm => ?_, e.rest _ _ h pln_lst.1 hn⟩
            rcases e.new _ hm with z | z
            · exact hn z
            · obtain ⟨ps, q⟩ := z _ h; cases q
          have d3 := keepD e3 hn hDl
          have sr : SR G.K ρ' H3 (wip es vs) (wipe σ vs) := ((rel1.sl.mono e').mono e3).wip vs
          have en : Ext G.K ρ1 ρ' H1 H3 := e'.trans e3
          refine ho (wipe σ vs) y (wipe σ vs) H3 (fun σ2 H2 => tt σ2 H2 fun b H3 =>
              if b = true then te σ2 H3 fun y H4 => ∃ acc, H4 Dl = some (.lst acc) ∧ acc.length < sizeLine ∧ (∃ ρ2 eh2 acc2 us2, Ext G.K ρ1 ρ2 H1 (upd H4 Dl (.lst (acc ++ [y]))) ∧ HR G ρ2 (upd H4 Dl (.lst (acc ++ [y]))) eh2 ∧ (true, Dl) ∉ ρ2 ∧ (upd H4 Dl (.lst (acc ++ [y]))) Dl = some (.lst us2) ∧ VRs G.K ρ2 (upd H4 Dl (.lst (acc ++ [y]))) acc2 us2 ∧
                wr G (VR G.K) ρ1 H1 ((lcGo it dg dt de vs m (i + 1) acc2 es eh2).bind fun ys h2 => .ok (.ref h2.length) (h2 ++ [.lst ys])) Q E)
              else ∃ ρ2 eh2 acc2 us2, Ext G.K ρ1 ρ2 H1 H3 ∧ HR G ρ2 H3 eh2 ∧ (true, Dl) ∉ ρ2 ∧ H3 Dl = some (.lst us2) ∧ VRs G.K ρ2 H3 acc2 us2 ∧
                wr G (VR G.K) ρ1 H1 ((lcGo it dg dt de vs m (i + 1) acc2 es eh2).bind fun ys h2 => .ok (.ref h2.length) (h2 ++ [.lst ys])) Q E) _ (wipe_wipe vs) (fun σ2 H2 w q => ⟨w, q⟩) ?_
          refine hg ρ' (wipe σ vs) H3 (wip es vs) eh' (it.tl i x) y _ ⟨sr, hr3⟩ v3 ?_
          · skip
            cases qg : dg (it.tl i x) (wip es vs) eh' with
            | no =>
              rw [qg] at hw
              exact hw
            | er z h' =>
              rw [qg] at hw
              exact fun ρ' H' c own e' hr q => hw ρ' H' c own (en.trans e') hr q
            | ok es4 eh4 =>
              rw [qg] at hw
              intro ρ4 H4 σ4 e4 hr4 sr4
              have d4 := keepD e4 d3.1 d3.2
              have hw4 : wr G (VR G.K) ρ1 H1 ((dt es4 eh4).bind fun b h2 => (if b = true then (de es4 h2).bind fun y h3 => (if acc.length < 50000 then lcGo it dg dt de vs m (i + 1) (acc ++ [y]) es h3 else .no) else lcGo it dg dt de vs m (i + 1) acc es h2).bind fun ys h2 => .ok (.ref h2.length) (h2 ++ [.lst ys])) Q E := by
                have hw' := hw
                simp only [bind_ok] at hw'
                cases qt : dt es4 eh4 with
                | ok b h2 => rw [qt] at hw'; exact hw'
                | er z h2 => rw [qt] at hw'; exact hw'
                | no => rw [qt] at hw'; exact hw'
              refine ht.bind0 ⟨sr4, hr4⟩ (en.trans e4) hw4 fun ρ5 H5 b eh5 b' e5 rel5 v5 h5 => ?_
              subst v5
              have d5 := keepD e5 d4.1 d4.2
              have e15 := (en.trans e4).trans e5
              cases b with
              | false =>
                refine iteF ⟨ρ5, eh5, acc, us, e15, rel5.hr, d5.1, d5.2, ((hacc.mono e3).mono e4).mono e5, h5⟩
              | true =>
                have h5' : wr G (VR G.K) ρ1 H1 ((de es4 eh5).bind fun y h3 => (if acc.length < 50000 then lcGo it dg dt de vs m (i + 1) (acc ++ [y]) es h3 else .no).bind fun ys h2 => .ok (.ref h2.length) (h2 ++ [.lst ys])) Q E := by
                  have hw' := h5
                  simp only [if_true] at hw'
                  cases qt : de es4 eh5 with
                  | ok b h2 => rw [qt] at hw'; exact hw'
                  | er z h2 => rw [qt] at hw'; exact hw'
                  | no => rw [qt] at hw'; exact hw'
                refine iteT (he.bind0 rel5 e15 h5' fun ρ6 H6 y6 eh6 u6 e6 rel6 v6 h6 => ?_)
                have d6 := keepD e6 d5.1 d5.2
                have hacc6 := (((hacc.mono e3).mono e4).mono e5).mono e6
                split at h6
                · rename_i hl
                  have em : Ext G.K ρ1 ρ6 H1 (upd H6 Dl (.lst (us ++ [u6]))) := (e15.trans e6).mut hD
                  have eb : Ext0 G.K ρ6 ρ6 H6 (upd H6 Dl (.lst (us ++ [u6]))) := ext0_upd d6.2
                  refine ⟨us, d6.2, ?_, ρ6, eh6, acc ++ [y6], us ++ [u6], em, rel6.hr.ext eb (fun a ha => upd_ne fun z => d6.1 (z ▸ ha)) (tabs_upd rel6.hr.tab fun v hv => by rw [d6.2] at hv; cases hv; exact pln_lst), d6.1, upd_same, VRs.mono0 eb _ _ (hacc6.append (VRs.one v6)), h6⟩
                  rw [← hacc6.length]
                  exact Nat.lt_of_lt_of_le hl (by decide)
                · exact h6.elim
end
end EE
set_option Elab.async false
set_option linter.all false
set_option maxRecDepth 100000
set_option maxHeartbeats 1000000
namespace EE
open PySem PySem.Spec PyProof.Rows L2
def Res.noer {α : Type} (r : Res α) : Res α := match r with
  | .er _ _ => .no
  | z => z
@[simp] theorem noer_ok {α : Type} (v : α) (h : EH) : (Res.ok v h).noer = .ok v h := rfl
@[simp] theorem noer_no {α : Type} : (Res.no : Res α).noer = .no := rfl
def dDef (np N : Nat) (b : DS) : DL := fun args h => if args.length = np then (b (args.map some ++ List.replicate (N - args.length) none) h).bind fun f h1 => match f with
  | .nx _ => .ok .non h1
  | .rt v => .ok v h1
  | .bk _ => .no
  | .ct _ => .no
  else .no
def dCall (f : DL) (a : DA) : DE := fun es h => (a es h).bind fun xs h1 => (f xs h1).noer
def spD0 (G : Gx) (f : DL) : Sp := fun vs H Q _ => ∃ ρ xs eh, VRs G.K ρ H xs vs ∧ HR G ρ H eh ∧ wr G (VR G.K) ρ H (f xs eh) Q E0
theorem wr_noer {α β : Type} {G : Gx} {R : Rho → Hp → α → β → Prop} {ρ : Rho} {H : Hp} {r : Res α} {Q : β → Hp → Prop} {E E' : XK} (h : wr G R ρ H r.noer Q E) : wr G R ρ H r Q E' := by
  cases r with
  | ok v h' => exact h
  | er x h' => exact h.elim
  | no => exact h
theorem sr_start {K : Fg} {ρ : Rho} {H : Hp} {xs : List EV} {vs : List V} (N : List Str) (h : VRs K ρ H xs vs) : SR K ρ H (xs.map some ++ List.replicate (N.length - xs.length) none) (L2.start N vs) := by
  have hl := h.length
  refine ⟨by simp [L2.start, hl], fun i v hv => ?_⟩
  unfold L2.start
  by_cases hi : i < xs.length
  · rw [List.getElem?_append_left (by simpa using hi), List.getElem?_map] at hv
    obtain ⟨y, h1, h2⟩ := Option.map_eq_some_iff.mp hv
    cases h2
    obtain ⟨u, h3, h4⟩ := h.get h1
    refine ⟨u, ?_, h4⟩
    rw [List.getElem?_append_left (by rw [List.length_map, ← hl]; exact hi), List.getElem?_map, h3]
    rfl
  · rw [List.getElem?_append_right (by simpa using hi)] at hv
    rw [List.getElem?_replicate] at hv
    split at hv
    · cases hv
    · cases hv
section
variable {P : Program} {w : World} {K : Fg} {mg : Str → Option Value} {base : Heap} {ct : Nat → Addr × List Str}
theorem fn_d {x qual : Str} {st : Stmt} {f : Addr} {fd : FuncData} {N ps : List Str} {k : Nat} {d : DS} (F : Fun K x qual st f fd) (S : FnScope N ps (defScope st))
    (h : ∀ (cdv : Value) (A : Around) (outer : List Env) (s : Shared) (H : Hp) (E : XK), Room k (A.deeper (envOfC qual (defScope st) s.heap.objs.size f cdv)) → PSsd (cxOf CX0 P w K mg base N qual (defScope st) f cdv A outer s H E).nox ct E0 (defBody st) d) :
    FnOk P w K mg base CX0 (k + 1) f fd ps (spD0 ⟨K, ct⟩ (dDef ps.length N.length d)) := by
  refine F.ok S (fun vs H Q E hs => ?_) fun cdv A outer s H vs Q E hr hs => ?_
  · obtain ⟨ρ, xs, eh, h1, h2, h3⟩ := hs
    rw [← h1.length]
    unfold dDef at h3
    split at h3
    · assumption
    · exact h3.elim
  · obtain ⟨ρ, xs, eh, h1, h2, h3⟩ := hs
    obtain ⟨t, b1, b2⟩ := h cdv A outer s H E hr
    refine ⟨t, b1, b2 ρ (L2.start N vs) H _ eh _ ⟨sr_start N h1, h2⟩ ?_⟩
    unfold dDef at h3
    split at h3
    · cases q : d (xs.map some ++ List.replicate (N.length - xs.length) none) eh with
      | no => rw [q] at h3; exact h3
      | er z h' => rw [q] at h3; exact h3
      | ok fl h' =>
        rw [q] at h3
        intro ρ' H' vf e hr' rf
        cases fl with
        | nx es' =>
          cases vf with
          | nx σ' => exact h3 ρ' H' .non e hr' (vr_non.mpr rfl)
          | _ => exact rf.elim
        | rt v =>
          cases vf with
          | rt u => exact h3 ρ' H' u e hr' rf
          | _ => exact rf.elim
        | bk _ => exact h3.elim
        | ct _ => exact h3.elim
    · exact h3.elim
def FnD (P : Program) (w : World) (K : Fg) (mg : Str → Option Value) (base : Heap) (ct : Nat → Addr × List Str) (k : Nat) (x : Str) (fn : DL) : Prop := ∃ f fd ps, FnOk P w K mg base CX0 k f fd ps (spD0 ⟨K, ct⟩ fn) ∧ mg x = some (.ref f) ∧ PySem.W.keepIn K (.ref f) = true ∧ Binds K fd ps []
theorem FnD.mono {j k : Nat} {x : Str} {fn : DL} (F : FnD P w K mg base ct j x fn) (h : j ≤ k) : FnD P w K mg base ct k x fn := by
  obtain ⟨f, fd, ps, h1, h2⟩ := F
  exact ⟨f, fd, ps, h1.mono h, h2⟩
def Tx (K : Fg) (mg : Str → Option Value) (x : Str) (st : Stmt) (ps : List Str) : Prop := ∃ f fd, Fun K x x st f fd ∧ mg x = some (.ref f) ∧ Binds K fd ps []
theorem fnd_mk {x : Str} {st : Stmt} {N ps : List Str} {k : Nat} {d : DS} (T : Tx K mg x st ps) (S : FnScope N ps (defScope st))
    (h : ∀ (f : Addr) (cdv : Value) (A : Around) (outer : List Env) (s : Shared) (H : Hp) (E : XK), Room k (A.deeper (envOfC x (defScope st) s.heap.objs.size f cdv)) → PSsd (cxOf CX0 P w K mg base N x (defScope st) f cdv A outer s H E).nox ct E0 (defBody st) d) :
    FnD P w K mg base ct (k + 1) x (dDef ps.length N.length d) := by
  obtain ⟨f, fd, F, hm, hb⟩ := T
  exact ⟨f, fd, ps, fn_d F S (h f), hm, F.kp, hb⟩
theorem fnd_zero {x : Str} {st : Stmt} {ps : List Str} (T : Tx K mg x st ps) : FnD P w K mg base ct 0 x (fun _ _ => .no) := by
  obtain ⟨f, fd, F, hm, hb⟩ := T
  refine ⟨f, fd, ps, ⟨fun vs H Q E hs => ?_, fun A outer s H args us vs Q E _ _ _ _ hs => ?_⟩, hm, F.kp, hb⟩
  · obtain ⟨_, _, _, _, _, h3⟩ := hs
    exact h3.elim
  · obtain ⟨_, _, _, _, _, h3⟩ := hs
    exact h3.elim
end
section
variable {X : Cx} {ct : Nat → Addr × List Str} {E : XK} {e : Expr} {es : List Expr} {pos p : Pos} {dr : DA}
theorem xe_call {k : Nat} {x : Str} {fn : DL} (F : FnD X.prog X.w X.K X.mg X.base ct k x fn) (hr : Room k X.A) (hg : Gl X x) (ha : PAd X ct E (e :: es) dr) (hdb : (x == ("__debug__" : Str)) = false := by decide)
    (he : starEach (e :: es) X.env = (false, eval e X.env) :: starEach es X.env := by rfl) (hpl : (backTo pos (starEach es X.env)).any (·.1) = false := by rfl) : PEd X ct E (.Call (.Name x p) (e :: es) [] pos) (dCall fn dr) := by
  obtain ⟨f, fd, ps, h1, hm, hk, hb⟩ := F
  obtain ⟨ta, a1, a2⟩ := ha
  refine ⟨_, pe_call h1 hr hg hm hk hb .nil pass0 a1 hdb he hpl, fun ρ σ H es eh Q rel h => ?_⟩
  refine a2.bind rel h fun ρ1 H1 xs eh1 us e1 rel1 v1 h1 => ?_
  exact ⟨ρ1, xs, eh1, by rw [List.append_nil]; exact v1, rel1.hr, wr_noer h1⟩
def tE (G : Gx) (E : XK) (d : DE) : TE := fun σ H Q => ∃ ρ es eh, Rel G ρ σ H es eh ∧ wr G (VR G.K) ρ H (d es eh) Q E
def tT (G : Gx) (E : XK) (d : DT) : TT := fun σ H Q => ∃ ρ es eh, Rel G ρ σ H es eh ∧ wr G RB ρ H (d es eh) Q E
theorem PEd.can {d : DE} (h : PEd X ct E e d) : PE X e (tE ⟨X.K, ct⟩ E d) := by
  obtain ⟨t, h1, h2⟩ := h
  exact ⟨fun pins s σ H Q I ⟨ρ, es, eh, r, w⟩ => h1.run pins s σ H Q I (h2 ρ σ H es eh Q r w)⟩
theorem PTd.can {d : DT} (h : PTd X ct E e d) : PT X e (tT ⟨X.K, ct⟩ E d) := by
  obtain ⟨t, h1, h2⟩ := h
  exact ⟨fun pins s σ H Q I ⟨ρ, es, eh, r, w⟩ => h1.run pins s σ H Q I (h2 ρ σ H es eh Q r w)⟩
theorem snd_tE {G : Gx} {d : DE} : SndE G E (tE G E d) d := fun ρ σ H es eh Q r w => ⟨ρ, es, eh, r, w⟩
theorem snd_tT {G : Gx} {d : DT} : SndT G E (tT G E d) d := fun ρ σ H es eh Q r w => ⟨ρ, es, eh, r, w⟩
def dYes : DT := fun _ h => .ok true h
theorem snd_yes {G : Gx} : SndT G E tYes dYes := fun ρ σ H es eh Q rel h => h ρ H true (Ext.refl _ _ _) rel.hr rfl
variable {elt tg iter c : Expr} {scope : Scope} {di : DI} {dt : DT} {de : DE}
theorem xe_lc1 (i : Nat) {x : Str} {px : Pos} (hc : X.calm = true) (hN : X.N.Nodup) (hi : PId X ct E (.Name x px) iter di) (he : ∀ (s : Shared) (H : Hp) (C : Addr) (cl : List (Str × Addr)) (fp : List Addr), PEd (X.blk s H scope (compEnvC scope cl C X.env) fp) ct E elt de)
    (ok : blkC X.N X.env.scope scope [(x, i)] = true := by kernel_rfl)
    (hg : ∀ (s : Shared) (H : Hp) (C : Addr) (cl : List (Str × Addr)) (fp : List Addr), PG (X.blk s H scope (compEnvC scope cl C X.env) fp) (.Name x px) (gName i) := by exact fun _ _ _ _ _ => pg_name (by assumption) rfl (by first | exact Or.inl rfl | exact Or.inr rfl))
    (hs : ∀ x, foldedSetIterable iter X.env x = pure x := by intro _; rfl) :
    PEd X ct E (.ListComp elt [⟨.Name x px, iter, [], 0⟩] scope pos) (dLc di (dName i) dYes de [i]) := by
  obtain ⟨wi, i1, i2⟩ := hi
  exact ⟨_, pe_lc (own := [(x, i)]) hc hN i1 (blkOk_by ok) hg (fun _ _ _ _ _ => pts_nil) (fun s H C cl fp => (he s H C cl fp).can) hs, snd_lc i2 snd_gname (only_name (by simp)) snd_yes snd_tE⟩
theorem xe_lc1i (i : Nat) {x : Str} {px : Pos} (hc : X.calm = true) (hN : X.N.Nodup) (hi : PId X ct E (.Name x px) iter di) (ht : ∀ (s : Shared) (H : Hp) (C : Addr) (cl : List (Str × Addr)) (fp : List Addr), PTd (X.blk s H scope (compEnvC scope cl C X.env) fp) ct E c dt)
    (he : ∀ (s : Shared) (H : Hp) (C : Addr) (cl : List (Str × Addr)) (fp : List Addr), PEd (X.blk s H scope (compEnvC scope cl C X.env) fp) ct E elt de)
    (ok : blkC X.N X.env.scope scope [(x, i)] = true := by kernel_rfl)
    (hg : ∀ (s : Shared) (H : Hp) (C : Addr) (cl : List (Str × Addr)) (fp : List Addr), PG (X.blk s H scope (compEnvC scope cl C X.env) fp) (.Name x px) (gName i) := by exact fun _ _ _ _ _ => pg_name (by assumption) rfl (by first | exact Or.inl rfl | exact Or.inr rfl))
    (hs : ∀ x, foldedSetIterable iter X.env x = pure x := by intro _; rfl) :
    PEd X ct E (.ListComp elt [⟨.Name x px, iter, [c], 0⟩] scope pos) (dLc di (dName i) dt de [i]) := by
  obtain ⟨wi, i1, i2⟩ := hi
  exact ⟨_, pe_lc (own := [(x, i)]) hc hN i1 (blkOk_by ok) hg (fun s H C cl fp => pts_one (ht s H C cl fp).can) (fun s H C cl fp => (he s H C cl fp).can) hs, snd_lc i2 snd_gname (only_name (by simp)) snd_tT snd_tE⟩
theorem xs_setLc1 (j i : Nat) {x y : Str} {px py spos : Pos} (hc : X.calm = true) (hN : X.N.Nodup) (hi : PId X ct E (.Name x px) iter di) (he : ∀ (s : Shared) (H : Hp) (C : Addr) (cl : List (Str × Addr)) (fp : List Addr), PEd (X.blk s H scope (compEnvC scope cl C X.env) fp) ct E elt de)
    (hsw : swapsWith (.ListComp elt [⟨.Name x px, iter, [], 0⟩] scope pos) (some (.Name y py)) spos.line X.env = pure true)
    (ok : blkC X.N X.env.scope scope [(x, i)] = true := by kernel_rfl)
    (hg : ∀ (s : Shared) (H : Hp) (C : Addr) (cl : List (Str × Addr)) (fp : List Addr), PG (X.blk s H scope (compEnvC scope cl C X.env) fp) (.Name x px) (gName i) := by exact fun _ _ _ _ _ => pg_name (by assumption) rfl (by first | exact Or.inl rfl | exact Or.inr rfl))
    (hy : X.N[j]? = some y := by rfl) (hyl : X.env.scope.names.lookup y = some .local := by rfl) (hs : ∀ x, foldedSetIterable iter X.env x = pure x := by intro _; rfl) :
    PSd X ct E (.Assign [.Name y py] (.ListComp elt [⟨.Name x px, iter, [], 0⟩] scope pos) spos) (dAsg (dLc di (dName i) dYes de [i]) (dName j)) := by
  obtain ⟨wi, i1, i2⟩ := hi
  exact ⟨_, ps_setLc (own := [(x, i)]) hc hN hy hyl hsw i1 (blkOk_by ok) hg (fun _ _ _ _ _ => pts_nil) (fun s H C cl fp => (he s H C cl fp).can) hs, snd_asg (snd_lc i2 snd_gname (only_name (by simp)) snd_yes snd_tE) snd_gname⟩
theorem xs_setLc1i (j i : Nat) {x y : Str} {px py spos : Pos} (hc : X.calm = true) (hN : X.N.Nodup) (hi : PId X ct E (.Name x px) iter di) (ht : ∀ (s : Shared) (H : Hp) (C : Addr) (cl : List (Str × Addr)) (fp : List Addr), PTd (X.blk s H scope (compEnvC scope cl C X.env) fp) ct E c dt)
    (he : ∀ (s : Shared) (H : Hp) (C : Addr) (cl : List (Str × Addr)) (fp : List Addr), PEd (X.blk s H scope (compEnvC scope cl C X.env) fp) ct E elt de)
    (hsw : swapsWith (.ListComp elt [⟨.Name x px, iter, [c], 0⟩] scope pos) (some (.Name y py)) spos.line X.env = pure true)
    (ok : blkC X.N X.env.scope scope [(x, i)] = true := by kernel_rfl)
    (hg : ∀ (s : Shared) (H : Hp) (C : Addr) (cl : List (Str × Addr)) (fp : List Addr), PG (X.blk s H scope (compEnvC scope cl C X.env) fp) (.Name x px) (gName i) := by exact fun _ _ _ _ _ => pg_name (by assumption) rfl (by first | exact Or.inl rfl | exact Or.inr rfl))
    (hy : X.N[j]? = some y := by rfl) (hyl : X.env.scope.names.lookup y = some .local := by rfl) (hs : ∀ x, foldedSetIterable iter X.env x = pure x := by intro _; rfl) :
    PSd X ct E (.Assign [.Name y py] (.ListComp elt [⟨.Name x px, iter, [c], 0⟩] scope pos) spos) (dAsg (dLc di (dName i) dt de [i]) (dName j)) := by
  obtain ⟨wi, i1, i2⟩ := hi
  exact ⟨_, ps_setLc (own := [(x, i)]) hc hN hy hyl hsw i1 (blkOk_by ok) hg (fun s H C cl fp => pts_one (ht s H C cl fp).can) (fun s H C cl fp => (he s H C cl fp).can) hs, snd_asg (snd_lc i2 snd_gname (only_name (by simp)) snd_tT snd_tE) snd_gname⟩
end
def LawOk (fn : DL) : Prop := ∀ ns : List Int, ns.length ≤ 63 → ∃ h, fn [.ref 0] [.ro (ns.map EV.int)] = .ok (.bl true) h
theorem law_sp {K : Fg} {ct : Nat → Addr × List Str} {fn : DL} (hl : LawOk fn) {H : Hp} {a : Addr} {ns : List Int} (hn : ns.length ≤ 63) (hO : Only H) (hS : SqL K H a (ns.map V.int)) (ht : tabOf ct = [] := by rfl) : spD0 ⟨K, ct⟩ fn [.ref a] H (fun v _ => v = .bl true) E0 := by
  obtain ⟨h', e⟩ := hl ns hn
  have hro : RoL K H a (ns.map V.int) := by
    rcases hS with (h | ⟨o, h⟩) | h
    · rcases hO a with z | ⟨o, xs, z⟩
      · rw [h] at z; cases z
      · rw [h] at z; cases z
    · exact .inl ⟨o, h⟩
    · exact .inr h
  refine ⟨[(false, a)], [.ref 0], [.ro (ns.map EV.int)], VRs.one (vr_ref.mpr ⟨a, rfl, rfl⟩), ⟨(by rw [show (⟨K, ct⟩ : Gx).ct = ct from rfl, ht]; exact fun p hp => nomatch hp), rfl, fun m n b h1 h2 => ?_, fun n o ho => ?_⟩, ?_⟩
  · cases m with
    | zero => simp at h1
    | succ m => simp at h1
  · cases n with
    | zero =>
      simp only [List.getElem?_cons_zero, Option.some.injEq] at ho
      subst ho
      exact ⟨a, rfl, ns.map V.int, hro, VRs.ints ns⟩
    | succ n => simp at ho
  · rw [e]
    intro ρ' H' u _ _ hv
    exact vr_bl.mp hv
end EE
set_option Elab.async false
set_option linter.all false
set_option maxRecDepth 100000
set_option maxHeartbeats 1000000
namespace EE
open PySem PySem.Spec PyProof.Rows L2
abbrev fAdd : D2 := d2or fAddI fCat
abbrev fMul : D2 := d2or fMulI fRep
abbrev fIn : D2 := fInL false
abbrev fNotIn : D2 := fInL true
section
variable {X : Cx} {ct : Nat → Addr × List Str} {E : XK}
theorem o_add : Opd X ct E (binaryOp .Add) fAdd := o_addI.or o_cat
theorem o_mul : Opd X ct E (binaryOp .Mult) fMul := o_mulI.or o_rep
theorem o_in (hu : X.A.units + 65 < cLine) : Opd X ct E (compareOp .In) fIn := o_inL hu
theorem o_notIn (hu : X.A.units + 65 < cLine) : Opd X ct E (compareOp .NotIn) fNotIn := o_notInL hu
theorem hu64 {k : Nat} {A : Around} (hr : Room k A) : A.units + 64 < cLine := by have := hr.un; omega
theorem hu65 {k : Nat} {A : Around} (hr : Room k A) : A.units + 65 < cLine := by have := hr.un; omega
end
end EE
set_option Elab.async false
set_option linter.all false
set_option maxRecDepth 100000
set_option maxHeartbeats 1000000
namespace EE
open PySem PySem.Spec PyProof.Rows L2
section
variable {κ : Type} [DecidableEq κ]
def dval (f : EV → Option κ) (kvs : List (EV × EV)) (k : κ) : Option EV := (kvs.find? fun p => decide (f p.1 = some k)).map (·.2)
def dput (f : EV → Option κ) (kvs : List (EV × EV)) (k : κ) (x v : EV) : List (EV × EV) :=
  if (kvs.any fun p => decide (f p.1 = some k)) = true then kvs.map (fun p => if f p.1 = some k then (p.1, v) else p) else kvs ++ [(x, v)]
def ddrop (f : EV → Option κ) (kvs : List (EV × EV)) (k : κ) : List (EV × EV) := kvs.filter fun p => decide (f p.1 ≠ some k)
variable {f : EV → Option κ} {R : EV → V → Prop}
theorem KR.len : ∀ {ps : List (EV × EV)} {l : List (κ × V)}, KR f R ps l → ps.length = l.length
  | [], _, h => by rw [h]; rfl
  | p :: ps, _, ⟨k, v, r, e, h1, h2, h3⟩ => by rw [e, List.length_cons, List.length_cons, KR.len h3]
theorem KR.val : ∀ {ps : List (EV × EV)} {l : List (κ × V)} (k : κ), KR f R ps l → FR R (dval f ps k) (valV l k)
  | [], _, k, h => by rw [h]; trivial
  | p :: ps, _, k, ⟨j, v, r, e, h1, h2, h3⟩ => by
    subst e
    by_cases hk : j = k
    · subst hk
      rw [valV_pos (p := (j, v)) rfl]
      unfold dval
      rw [List.find?_cons_of_pos (by simp [h1])]
      exact h2
    · rw [valV_neg (p := (j, v)) hk]
      unfold dval
      rw [List.find?_cons_of_neg (by simp [h1, hk])]
      exact KR.val k h3
theorem KR.any : ∀ {ps : List (EV × EV)} {l : List (κ × V)} (k : κ), KR f R ps l → (ps.any fun p => decide (f p.1 = some k)) = (l.any fun p => decide (p.1 = k))
  | [], _, k, h => by rw [h]; rfl
  | p :: ps, _, k, ⟨j, v, r, e, h1, h2, h3⟩ => by
    subst e
    rw [List.any_cons, List.any_cons, KR.any k h3, h1]
    simp only [Option.some.injEq]
theorem KR.upd {x : EV} {u : V} (k : κ) (hx : R x u) : ∀ {ps : List (EV × EV)} {l : List (κ × V)}, KR f R ps l → KR f R (ps.map fun p => if f p.1 = some k then (p.1, x) else p) (l.map fun p => if p.1 = k then (p.1, u) else p)
  | [], _, h => by rw [h]; rfl
  | p :: ps, _, ⟨j, v, r, e, h1, h2, h3⟩ => by
    subst e
    rw [List.map_cons, List.map_cons]
    by_cases hk : j = k
    · subst hk
      refine ⟨j, u, _, by rw [if_pos rfl], ?_, ?_, KR.upd j hx h3⟩
      · rw [if_pos h1]; exact h1
      · rw [if_pos h1]; exact hx
    · refine ⟨j, v, _, by rw [if_neg hk], ?_, ?_, KR.upd k hx h3⟩
      · rw [if_neg (by rw [h1]; simpa using hk)]; exact h1
      · rw [if_neg (by rw [h1]; simpa using hk)]; exact h2
theorem KR.snoc {y x : EV} {k : κ} {u : V} (hy : f y = some k) (hx : R x u) : ∀ {ps : List (EV × EV)} {l : List (κ × V)}, KR f R ps l → KR f R (ps ++ [(y, x)]) (l ++ [(k, u)])
  | [], _, h => by rw [h]; exact ⟨k, u, [], rfl, hy, hx, rfl⟩
  | p :: ps, _, ⟨j, v, r, e, h1, h2, h3⟩ => by
    subst e
    exact ⟨j, v, _, rfl, h1, h2, KR.snoc hy hx h3⟩
theorem KR.put {ps : List (EV × EV)} {l : List (κ × V)} {y x : EV} {k : κ} {u : V} (hy : f y = some k) (hx : R x u) (h : KR f R ps l) : KR f R (dput f ps k y x) (putK l k u) := by
  unfold dput putK
  rw [h.any k]
  split
  · exact h.upd k hx
  · exact h.snoc hy hx
theorem KR.drop (k : κ) : ∀ {ps : List (EV × EV)} {l : List (κ × V)}, KR f R ps l → KR f R (ddrop f ps k) (dropK l k)
  | [], _, h => by rw [h]; rfl
  | p :: ps, _, ⟨j, v, r, e, h1, h2, h3⟩ => by
    subst e
    unfold ddrop dropK
    by_cases hk : j = k
    · rw [List.filter_cons_of_neg (by simp [h1, hk]), List.filter_cons_of_neg (by simp [hk])]
      exact KR.drop k h3
    · rw [List.filter_cons_of_pos (by simp [h1, hk]), List.filter_cons_of_pos (by simp [hk])]
      exact ⟨j, v, _, rfl, h1, h2, KR.drop k h3⟩
theorem KR.at : ∀ {ps : List (EV × EV)} {l : List (κ × V)} {i : Nat} {p : EV × EV}, KR f R ps l → ps[i]? = some p → ∃ k v, l[i]? = some (k, v) ∧ f p.1 = some k ∧ R p.2 v
  | [], _, _, _, _, e => by simp at e
  | q :: ps, _, i, p, ⟨j, v, r, e, h1, h2, h3⟩, hp => by
    subst e
    cases i with
    | zero =>
      simp only [List.getElem?_cons_zero, Option.some.injEq] at hp
      subst hp
      exact ⟨j, v, rfl, h1, h2⟩
    | succ i =>
      simp only [List.getElem?_cons_succ] at hp ⊢
      exact KR.at h3 hp
end
theorem keyOf_vr {K : Fg} {ρ : Rho} {H : Hp} {x : EV} {k : Key} (h : keyOf x = some k) : VR K ρ H x (kV k) := by
  unfold keyOf at h
  split at h
  · cases h; exact vr_int.mpr rfl
  · cases h; exact vr_str.mpr rfl
  · cases h
theorem keyOf_eq {K : Fg} {ρ : Rho} {H : Hp} {x : EV} {k : Key} {y : V} (h : keyOf x = some k) (hx : VR K ρ H x y) : y = kV k := by
  unfold keyOf at h
  split at h
  · cases h; exact vr_int.mp hx
  · cases h; exact vr_str.mp hx
  · cases h
theorem keysOf_vrs {K : Fg} {ρ : Rho} {H : Hp} : ∀ {xs : List EV} {ks : List Key}, keysOf xs = some ks → VRs K ρ H xs (ks.map kV)
  | [], ks, h => by cases h; exact vrs_nil.mpr rfl
  | x :: xs, ks, h => by
    unfold keysOf at h
    split at h
    · rename_i k ks' e1 e2
      cases h
      exact vrs_cons.mpr ⟨kV k, ks'.map kV, rfl, keyOf_vr e1, keysOf_vrs e2⟩
    · cases h
theorem keysOf_eq {K : Fg} {ρ : Rho} {H : Hp} : ∀ {xs : List EV} {ks : List Key} {vs : List V}, keysOf xs = some ks → VRs K ρ H xs vs → vs = ks.map kV
  | [], ks, vs, h, hv => by cases h; exact vrs_nil.mp hv
  | x :: xs, ks, vs, h, hv => by
    unfold keysOf at h
    split at h
    · rename_i k ks' e1 e2
      cases h
      obtain ⟨v, r, rfl, h1, h2⟩ := vrs_cons.mp hv
      rw [keyOf_eq e1 h1, keysOf_eq e2 h2]
      rfl
    · cases h
theorem tkeyOf_vr {K : Fg} {ρ : Rho} {H : Hp} {x : EV} {k : List Key} {b : Addr} (h : tkeyOf x = some k) (hb : H b = some (.tup (k.map kV))) : VR K ρ H x (.ref b) := by
  unfold tkeyOf at h
  split at h
  · exact vr_tup.mpr ⟨b, k.map kV, rfl, hb, keysOf_vrs h⟩
  · cases h
theorem tkeyOf_eq {K : Fg} {ρ : Rho} {H : Hp} {x : EV} {k : List Key} {y : V} (h : tkeyOf x = some k) (hx : VR K ρ H x y) : ∃ b, y = .ref b ∧ H b = some (.tup (k.map kV)) := by
  unfold tkeyOf at h
  split at h
  · obtain ⟨a, vs, rfl, e2, e3⟩ := vr_tup.mp hx
    rw [keysOf_eq h e3] at e2
    exact ⟨a, rfl, e2⟩
  · cases h
def dgetE (t : Bool) (kvs : List (EV × EV)) (x : EV) : Option (Option EV) := match t with
  | false => (keyOf x).map (dval keyOf kvs)
  | true => (tkeyOf x).map (dval tkeyOf kvs)
def dputE (t : Bool) (kvs : List (EV × EV)) (x v : EV) : Option (List (EV × EV)) := match t with
  | false => (keyOf x).map fun k => dput keyOf kvs k x v
  | true => (tkeyOf x).map fun k => dput tkeyOf kvs k x v
def mdicAt (h : EH) (n : Nat) : Option (Bool × List (EV × EV)) := match h[n]? with
  | some (.dic t xs) => some (t, xs)
  | _ => none
section
variable {G : Gx} {ρ : Rho} {H : Hp} {eh : EH} {n : Nat}
theorem dic_of (hr : HR G ρ H eh) {t : Bool} {kvs : List (EV × EV)} (h : dicAt eh n = some (t, kvs)) : ∃ a u, adr ρ n = some a ∧ Rd H a u ∧ DR (VR G.K ρ H) t kvs u := by
  unfold dicAt at h
  split at h
  · rename_i t ys e
    cases h
    obtain ⟨a, h1, u, h2, h3⟩ := hr.obj n _ e
    exact ⟨a, u, adr_of h1, .inl h2, h3⟩
  · rename_i t ys e
    cases h
    obtain ⟨a, h1, f, u, h2, h3⟩ := hr.obj n _ e
    exact ⟨a, u, adr_of h1, .inr ⟨f, h2⟩, h3⟩
  · cases h
theorem mdic_of (hr : HR G ρ H eh) {t : Bool} {kvs : List (EV × EV)} (h : mdicAt eh n = some (t, kvs)) : ∃ a u, adr ρ n = some a ∧ H a = some u ∧ DR (VR G.K ρ H) t kvs u ∧ ρ[n]? = some (true, a) := by
  unfold mdicAt at h
  split at h
  · rename_i t ys e
    cases h
    obtain ⟨a, h1, u, h2, h3⟩ := hr.obj n _ e
    exact ⟨a, u, adr_of h1, h2, h3, h1⟩
  · cases h
theorem dget_of {t : Bool} {kvs : List (EV × EV)} {u : HO} {a : Addr} {x : EV} {y : V} {o : Option EV} (hu : Rd H a u) (hd : DR (VR G.K ρ H) t kvs u) (h : dgetE t kvs x = some o) (hx : VR G.K ρ H x y) : ∃ ov, DGet H a y ov ∧ FR (VR G.K ρ H) o ov := by
  cases t with
  | false =>
    obtain ⟨l, rfl, hk⟩ := hd
    obtain ⟨k, e1, e2⟩ := Option.map_eq_some_iff.mp h
    subst e2
    exact ⟨_, .inl ⟨l, k, hu, keyOf_eq e1 hx, rfl⟩, hk.val k⟩
  | true =>
    obtain ⟨l, rfl, hk⟩ := hd
    obtain ⟨k, e1, e2⟩ := Option.map_eq_some_iff.mp h
    subst e2
    obtain ⟨b, rfl, hb⟩ := tkeyOf_eq e1 hx
    exact ⟨_, .inr ⟨l, k, b, hu, rfl, hb, rfl⟩, hk.val k⟩
theorem put_dic (hr : HR G ρ H eh) {a : Addr} {u u' : HO} {t : Bool} {kvs kvs' : List (EV × EV)} (hn : ρ[n]? = some (true, a)) (ha : H a = some u) (hd : DR (VR G.K ρ H) t kvs u) (hd' : DR (VR G.K ρ H) t kvs' u') :
    Ext G.K ρ ρ H (upd H a u') ∧ HR G ρ (upd H a u') (eh.set n (.dic t kvs')) := by
  have e : Ext G.K ρ ρ H (upd H a u') := Ext.write _ hn ha hd.ntup hd.nfrz hd.pln
  exact ⟨e, hr.write hn rfl e ⟨u', upd_same, hd'.mono fun x v => VR.mono e x v⟩⟩
theorem DR.len {R : EV → V → Prop} : ∀ {t : Bool} {kvs : List (EV × EV)} {l : List (Key × V)}, DR R t kvs (.dK l) → kvs.length = l.length
  | false, _, _, ⟨_, e, q⟩ => by cases e; exact q.len
  | true, _, _, ⟨_, e, q⟩ => by cases e
theorem dput_of (hr : HR G ρ H eh) {t : Bool} {kvs kvs' : List (EV × EV)} {x v : EV} {y w : V} (h : mdicAt eh n = some (t, kvs)) (hp : dputE t kvs x v = some kvs') (hl : kvs.length < 100000) (hx : VR G.K ρ H x y) (hv : VR G.K ρ H v w) :
    ∃ a H', adr ρ n = some a ∧ DPut H a y w H' ∧ Ext G.K ρ ρ H H' ∧ HR G ρ H' (eh.set n (.dic t kvs')) := by
  obtain ⟨a, u, h1, h2, h3, h4⟩ := mdic_of hr h
  have hz : kvs.length < sizeLine := Nat.lt_of_lt_of_le hl (by decide)
  cases t with
  | false =>
    obtain ⟨l, rfl, hk⟩ := h3
    obtain ⟨k, e1, e2⟩ := Option.map_eq_some_iff.mp hp
    subst e2
    obtain ⟨e, hr'⟩ := put_dic (t := false) (kvs := kvs) (kvs' := dput keyOf kvs k x v) (u' := .dK (putK l k w)) hr h4 h2 ⟨l, rfl, hk⟩ ⟨_, rfl, hk.put e1 hv⟩
    exact ⟨a, _, h1, .inl ⟨l, k, h2, keyOf_eq e1 hx, by rw [← hk.len]; exact hz, rfl⟩, e, hr'⟩
  | true =>
    obtain ⟨l, rfl, hk⟩ := h3
    obtain ⟨k, e1, e2⟩ := Option.map_eq_some_iff.mp hp
    subst e2
    obtain ⟨b, rfl, hb⟩ := tkeyOf_eq e1 hx
    obtain ⟨e, hr'⟩ := put_dic (t := true) (kvs := kvs) (kvs' := dput tkeyOf kvs k x v) (u' := .dT (putK l k w)) hr h4 h2 ⟨l, rfl, hk⟩ ⟨_, rfl, hk.put e1 hv⟩
    exact ⟨a, _, h1, .inr ⟨l, k, b, h2, rfl, hb, by rw [← hk.len]; exact hz, rfl⟩, e, hr'⟩
end
def fDGet : D2 := fun x y h => match x with
  | .ref n => match dicAt h n with
    | some (t, kvs) => match dgetE t kvs y with
      | some (some v) => .ok v h
      | _ => .no
    | none => .no
  | _ => .no
def fDIn (neg : Bool) : D2 := fun x y h => match y with
  | .ref n => match dicAt h n with
    | some (t, kvs) => match dgetE t kvs x with
      | some o => .ok (.bl (neg ^^ o.isSome)) h
      | _ => .no
    | none => .no
  | _ => .no
def sDic : DSet := fun o i x h => match o with
  | .ref n => match mdicAt h n with
    | some (t, kvs) => match dputE t kvs i x with
      | some kvs' => if kvs.length < 100000 then .ok () (h.set n (.dic t kvs')) else .no
      | none => .no
    | none => .no
  | _ => .no
theorem FR.isSome {R : EV → V → Prop} : ∀ {x : Option EV} {v : Option V}, FR R x v → x.isSome = v.isSome
  | some _, some _, _ => rfl
  | none, none, _ => rfl
  | some _, none, q => q.elim
  | none, some _, q => q.elim
theorem dOp_or (f g : D2) (a b : DE) (es : ES) (h : EH) : dOp (d2or f g) a b es h = dOp f a b es h ∨ dOp (d2or f g) a b es h = dOp g a b es h := by
  unfold dOp
  cases a es h with
  | ok x h1 =>
    simp only [bind_ok]
    cases b es h1 with
    | ok y h2 =>
      simp only [bind_ok]
      unfold d2or
      cases q : f x y h2 with
      | no => right; rfl
      | ok v h' => left; rfl
      | er x h' => left; rfl
    | er x h2 => left; rfl
    | no => left; rfl
  | er x h1 => left; rfl
  | no => left; rfl
section
variable {X : Cx} {ct : Nat → Addr × List Str} {E : XK} {G : Gx} {a b : Expr} {da db : DE} {pos : Pos}
theorem xe_alt {e : Expr} {d d' d2 : DE} (h : PEd X ct E e d) (h' : PEd X ct E e d') (hd : ∀ es h, d2 es h = d es h ∨ d2 es h = d' es h) : PEd X ct E e d2 := by
  obtain ⟨t, a1, a2⟩ := h
  obtain ⟨t', b1, b2⟩ := h'
  refine ⟨fun σ H Q => t σ H Q ∨ t' σ H Q, ⟨fun pins s σ H Q I q => ?_⟩, fun ρ σ H es eh Q rel hw => ?_⟩
  · rcases q with q | q
    · exact a1.run pins s σ H Q I q
    · exact b1.run pins s σ H Q I q
  · rcases hd es eh with q | q
    · rw [q] at hw
      exact .inl (a2 ρ σ H es eh Q rel hw)
    · rw [q] at hw
      exact .inr (b2 ρ σ H es eh Q rel hw)
theorem xe_dget (hu : X.A.units + 1 < cLine) (ha : PEd X ct E a da) (hb : PEd X ct E b db) (hs : NoSl b := by exact fun _ _ => rfl) : PEd X ct E (.Subscript a b pos) (dOp fDGet da db) := by
  obtain ⟨t, a1, a2⟩ := ha
  obtain ⟨u, b1, b2⟩ := hb
  refine ⟨_, pe_dget hu a1 b1 hs, fun ρ σ H es eh Q rel h => ?_⟩
  refine a2.bind rel h fun ρ1 H1 x eh1 v e1 rel1 v1 h1 => ?_
  refine b2.bind rel1 h1 fun ρ2 H2 y eh2 w e2 rel2 v2 h2 => ?_
  unfold fDGet at h2
  split at h2
  · rename_i n
    split at h2
    · rename_i t kvs e3
      split at h2
      · rename_i z e4
        obtain ⟨p, uo, g1, g2, g3⟩ := dic_of rel2.hr e3
        obtain ⟨p', q1, rfl⟩ := vr_ref.mp (v1.mono e2)
        rw [g1] at q1; cases q1
        obtain ⟨ov, k1, k2⟩ := dget_of g2 g3 e4 v2
        cases ov with
        | none => exact k2.elim
        | some zz => exact ⟨p, zz, rfl, k1, h2 ρ2 H2 _ (Ext.refl _ _ _) rel2.hr k2⟩
      · exact h2.elim
    · exact h2.elim
  · exact h2.elim
theorem xe_ixd {f : D2} (hu : X.A.units + 1 < cLine) (hf : Ixd X ct E f) (ha : PEd X ct E a da) (hb : PEd X ct E b db) (hs : PlainIx b := by exact fun _ _ => rfl) (hs2 : NoSl b := by exact fun _ _ => rfl) : PEd X ct E (.Subscript a b pos) (dOp (d2or f fDGet) da db) :=
  xe_alt (xe_ix hf ha hb hs) (xe_dget hu ha hb hs2) fun es h => dOp_or _ _ _ _ es h
theorem o_dIn (hu : X.A.units + 1 < cLine) : Opd X ct E (compareOp .In) (fDIn false) := ⟨fun y x H Q => ∃ a o, x = .ref a ∧ DGet H a y o ∧ Q (.bl o.isSome) H, by
  rintro pins s σ H y x v u Q I ry rx ⟨a, o, rfl, g, q⟩
  obtain rfl : u = Value.ref a := rx
  exact d_in hu I g ry fun s3 I3 => ⟨.bl o.isSome, H, I3, rfl, q⟩, fun ρ H eh x y v w Q hr hx hy h => by
  unfold fDIn at h
  split at h
  · rename_i n
    split at h
    · rename_i t kvs e3
      split at h
      · rename_i o e4
        obtain ⟨p, uo, g1, g2, g3⟩ := dic_of hr e3
        obtain ⟨p', q1, rfl⟩ := vr_ref.mp hy
        rw [g1] at q1; cases q1
        obtain ⟨ov, k1, k2⟩ := dget_of g2 g3 e4 hx
        exact ⟨p, ov, rfl, k1, h ρ H _ (Ext.refl _ _ _) hr (vr_bl.mpr (by rw [k2.isSome]; simp))⟩
      · exact h.elim
    · exact h.elim
  · exact h.elim⟩
theorem o_dNotIn (hu : X.A.units + 1 < cLine) : Opd X ct E (compareOp .NotIn) (fDIn true) := ⟨fun y x H Q => ∃ a o, x = .ref a ∧ DGet H a y o ∧ Q (.bl (!o.isSome)) H, by
  rintro pins s σ H y x v u Q I ry rx ⟨a, o, rfl, g, q⟩
  obtain rfl : u = Value.ref a := rx
  exact d_notIn hu I g ry fun s3 I3 => ⟨.bl (!o.isSome), H, I3, rfl, q⟩, fun ρ H eh x y v w Q hr hx hy h => by
  unfold fDIn at h
  split at h
  · rename_i n
    split at h
    · rename_i t kvs e3
      split at h
      · rename_i o e4
        obtain ⟨p, uo, g1, g2, g3⟩ := dic_of hr e3
        obtain ⟨p', q1, rfl⟩ := vr_ref.mp hy
        rw [g1] at q1; cases q1
        obtain ⟨ov, k1, k2⟩ := dget_of g2 g3 e4 hx
        exact ⟨p, ov, rfl, k1, h ρ H _ (Ext.refl _ _ _) hr (vr_bl.mpr (by rw [k2.isSome]; simp))⟩
      · exact h.elim
    · exact h.elim
  · exact h.elim⟩
theorem set_dic (hu : X.A.units + 1 < cLine) : PSetd X ct E sDic := ⟨_, set_dict hu, fun ρ H eh o i x a b c Q hr ho hi hx h => by
  unfold sDic at h
  split at h
  · rename_i n
    split at h
    · rename_i t kvs e3
      split at h
      · rename_i kvs' e4
        split at h
        · rename_i hl
          obtain ⟨p, H', g1, g2, g3, g4⟩ := dput_of hr e3 e4 hl hi hx
          obtain ⟨p', q1, rfl⟩ := vr_ref.mp ho
          rw [g1] at q1; cases q1
          exact ⟨p, H', rfl, g2, h ρ H' () g3 g4 trivial⟩
        · exact h.elim
      · exact h.elim
    · exact h.elim
  · exact h.elim⟩
def dNewD (t : Bool) : DE := fun _ h => .ok (.ref h.length) (h ++ [.dic t []])
theorem xe_dnew (t : Bool) : PEd X ct E (.Dict [] [] pos) (dNewD t) := by
  have key : ∀ (u : HO), DR (VR X.K [] fun _ => none) t [] u → (∀ ρ H, DR (VR X.K ρ H) t [] u) → ∀ (ρ : Rho) (σ : L2.St) (H : Hp) (es : ES) (eh : EH) (Q : VK), Rel ⟨X.K, ct⟩ ρ σ H es eh → wr ⟨X.K, ct⟩ (VR X.K) ρ H (dNewD t es eh) Q E → ∀ p, H p = none → Q (.ref p) (upd H p u) := fun u _ hu ρ σ H es eh Q rel h p hp => by
    exact h (ρ ++ [(true, p)]) _ _ (Ext.alloc _ hp) (rel.hr.alloc (o := .dic t []) hp rfl ⟨u, upd_same, hu _ _⟩) (vr_ref.mpr ⟨p, last_get rel.hr.len, rfl⟩)
  cases t with
  | false => exact ⟨_, pe_dnewK, key (.dK []) ⟨[], rfl, rfl⟩ fun _ _ => ⟨[], rfl, rfl⟩⟩
  | true => exact ⟨_, pe_dnewT, key (.dT []) ⟨[], rfl, rfl⟩ fun _ _ => ⟨[], rfl, rfl⟩⟩
def mPopT : EV → DL := fun x xs h => match x, xs with
  | .ref n, [y, z] => match mdicAt h n, tkeyOf y with
    | some (true, kvs), some k => match dval tkeyOf kvs k with
      | some v => .ok v (h.set n (.dic true (ddrop tkeyOf kvs k)))
      | none => .ok z h
    | _, _ => .no
  | _, _ => .no
theorem m_popT (hu : X.A.units + 1 < cLine) : Mtd X ct E "dict.pop" mPopT := ⟨_, L2.DX.mt_popT hu, fun ρ H eh x a xs as Q hr hx hxs h => by
  unfold mPopT at h
  split at h
  · rename_i n y z
    split at h
    · rename_i kvs k e1 e2
      obtain ⟨p, u, g1, g2, g3, g4⟩ := mdic_of hr e1
      obtain ⟨l, rfl, hk⟩ := g3
      obtain ⟨p', q1, rfl⟩ := vr_ref.mp hx
      rw [g1] at q1; cases q1
      obtain ⟨v, w, rfl, hv, hw⟩ := vrs_two hxs
      obtain ⟨b, rfl, hb⟩ := tkeyOf_eq e2 hv
      have hval := hk.val k
      refine ⟨p, l, k, b, w, rfl, rfl, g2, hb, fun v0 hv0 => ?_, fun hn => ?_⟩
      · rw [hv0] at hval
        split at h
        · rename_i ve e3
          rw [e3] at hval
          obtain ⟨e, hr'⟩ := put_dic (t := true) (kvs := kvs) (kvs' := ddrop tkeyOf kvs k) (u' := .dT (dropK l k)) hr g4 g2 ⟨l, rfl, hk⟩ ⟨_, rfl, hk.drop k⟩
          exact h ρ _ _ e hr' (VR.mono e _ _ hval)
        · rename_i e3
          rw [e3] at hval
          exact hval.elim
      · rw [hn] at hval
        split at h
        · rename_i ve e3
          rw [e3] at hval
          exact hval.elim
        · exact h ρ _ _ (Ext.refl _ _ _) hr hw
    · exact h.elim
  · exact h.elim⟩
def dBMD (f : EV → DL) (o : DE) (a : DA) : DE := fun es h => (o es h).bind fun x h1 => match x with
  | .ref n => match mdicAt h1 n with
    | some _ => (a es h1).bind fun xs h2 => f x xs h2
    | none => .no
  | _ => .no
theorem DR.ty {R : EV → V → Prop} {H : Hp} {a : Addr} (K : Fg) : ∀ {t : Bool} {kvs : List (EV × EV)} {u : HO}, H a = some u → DR R t kvs u → tyV K "dict" (.ref a) H
  | false, _, _, e, ⟨l, q, _⟩ => by subst q; exact .inr (.inr (.inl ⟨rfl, .inl ⟨_, e⟩⟩))
  | true, _, _, e, ⟨l, q, _⟩ => by subst q; exact .inr (.inr (.inl ⟨rfl, .inr ⟨_, e⟩⟩))
theorem snd_bmD {r : V → List V → Hp → VK → Prop} {f : EV → DL} {to : TE} {ta : TA} {o : DE} {a : DA} (hr : SndM G E r f) (ho : SndE G E to o) (ha : SndA G E ta a) : SndE G E (tBM G.K "dict" r to ta) (dBMD f o a) := fun ρ σ H es eh Q rel h => by
  refine ho.bind rel h fun ρ1 H1 x eh1 u e1 rel1 v1 h1 => ?_
  cases x with
  | ref n =>
    simp only at h1
    split at h1
    · rename_i tk e2
      obtain ⟨a1, vs, g1, g2, g3, _⟩ := mdic_of rel1.hr e2
      obtain ⟨a', q1, rfl⟩ := vr_ref.mp v1
      rw [g1] at q1; cases q1
      refine ⟨g3.ty _ g2, ha.bind rel1 h1 fun ρ2 H2 xs eh2 us e2 rel2 v2 h2 => ?_⟩
      exact hr ρ2 H2 eh2 _ _ xs us Q rel2.hr (v1.mono e2) v2 h2
    · exact h1.elim
  | _ => exact h1.elim
variable {e e' : Expr} {dr : DA}
theorem xe_popT {apos cpos : Pos} (hu : X.A.units + 1 < cLine) (ho : PEd X ct E a da) (ha : PAd X ct E [e, e'] dr)
    (hbase : attributeBase a "pop" X.env (eval a X.env) = eval a X.env := by rfl)
    (hfew : ((backTo cpos (starEach [e, e'] X.env)).all (fun x => !x.1) && (backToKw cpos (keywordEach [] X.env)).all (fun x => x.1.isSome)
      && decide ([e, e'].length + ([] : List Keyword).length + (if ([] : List Keyword).isEmpty then 0 else 1) < 30)) = true := by rfl)
    (hline : (apos.endLine == cpos.line) = true := by rfl) (hs : starEach [e, e'] X.env = (false, eval e X.env) :: starEach [e'] X.env := by rfl) (hplain : (backTo cpos (starEach [e'] X.env)).any (·.1) = false := by rfl) :
    PEd X ct E (.Call (.Attribute a "pop" apos) [e, e'] [] cpos) (dBMD mPopT da dr) := by
  obtain ⟨r, m1, m2⟩ := m_popT (X := X) (ct := ct) (E := E) hu
  obtain ⟨t, a1, a2⟩ := ho
  obtain ⟨u, b1, b2⟩ := ha
  exact ⟨_, pe_bm PySem.F.plainAttrs_dict PySem.F.slot_dict_pop PySem.F.type_dict_pop m1 a1 b1 hbase hfew hline hs hplain, snd_bmD m2 a2 b2⟩
end
end EE
set_option Elab.async false
set_option linter.all false
set_option maxRecDepth 100000
set_option maxHeartbeats 1000000
namespace EE
open PySem PySem.Spec PyProof.Rows L2
structure Cd (K : Fg) (cn : Addr × List Str) : Prop where
  cl : Cls K cn.1
  no : ∀ m ∈ cn.2, NoAttr K cn.1 m
  nd : cn.2.Nodup
  few : cn.2.length < 100
theorem putF_len {f : Str} {y : V} : ∀ {l : List (Str × V)} {v : V}, l.lookup f = some v → (putF f y l).length = l.length
  | [], _, h => by simp at h
  | (g, x) :: r, v, h => by
    unfold putF
    by_cases e : g = f
    · rw [if_pos e, List.length_cons, List.length_cons]
    · rw [if_neg e, List.length_cons, List.length_cons, putF_len (v := v)]
      rw [List.lookup_cons] at h
      have : (f == g) = false := by simpa using fun z => e z.symm
      rw [this] at h
      exact h
def cnt (fs : List (Option EV)) : Nat := (fs.filter fun z => z.isSome).length
theorem cnt_le (fs : List (Option EV)) : cnt fs ≤ fs.length := List.length_filter_le _ _
theorem cnt_set : ∀ {fs : List (Option EV)} {i : Nat} (v : EV), i < fs.length → cnt fs ≤ cnt (fs.set i (some v)) ∧ (fs[i]? = some none → cnt fs + 1 ≤ cnt (fs.set i (some v)))
  | [], i, v, h => by simp at h
  | x :: fs, 0, v, h => by
    unfold cnt
    cases x with
    | none => simp [List.filter_cons]
    | some x => simp [List.filter_cons]
  | x :: fs, i + 1, v, h => by
    have ih := cnt_set (fs := fs) (i := i) v (by simpa using h)
    unfold cnt at ih ⊢
    simp only [List.set_cons_succ, List.getElem?_cons_succ]
    cases x with
    | none => rw [List.filter_cons_of_neg (by simp), List.filter_cons_of_neg (by simp)]; exact ih
    | some x =>
      rw [List.filter_cons_of_pos (by rfl), List.filter_cons_of_pos (by rfl), List.length_cons, List.length_cons]
      exact ⟨by omega, fun z => by have := ih.2 z; omega⟩
theorem nodup_at {l : List Str} (h : l.Nodup) {i j : Nat} {m : Str} (hi : l[i]? = some m) (hj : l[j]? = some m) : i = j := by
  obtain ⟨i1, i2⟩ := List.getElem?_eq_some_iff.mp hi
  obtain ⟨j1, j2⟩ := List.getElem?_eq_some_iff.mp hj
  have key := List.pairwise_iff_getElem.mp h
  rcases Nat.lt_trichotomy i j with z | z | z
  · exact absurd (i2.trans j2.symm) (key i j i1 j1 z)
  · exact z
  · exact absurd (j2.trans i2.symm) (key j i j1 i1 z)
def objAt (c : Nat) (h : EH) (n : Nat) : Option (List (Option EV)) := match h[n]? with
  | some (.obj c' fs) => if c' = c then some fs else none
  | _ => none
section
variable {G : Gx} {ρ : Rho} {H : Hp} {eh : EH} {n c : Nat}
theorem obj_of (hr : HR G ρ H eh) {fs : List (Option EV)} (h : objAt c eh n = some fs) : ∃ a dx l, adr ρ n = some a ∧ ρ[n]? = some (true, a) ∧ H a = some (.ins (G.ct c).1 dx l) ∧ fs.length = (G.ct c).2.length ∧ l.length ≤ cnt fs ∧
    (∀ (i : Nat) (x : Option EV), fs[i]? = some x → ∀ m, (G.ct c).2[i]? = some m → FR (VR G.K ρ H) x (l.lookup m)) ∧ ∀ m, m ∉ (G.ct c).2 → l.lookup m = none := by
  unfold objAt at h
  split at h
  · rename_i c' ys e
    split at h
    · rename_i hc
      cases h
      subst hc
      obtain ⟨a, h1, dx, l, h2, h3, h4, h5, h6⟩ := hr.obj n _ e
      exact ⟨a, dx, l, adr_of h1, h1, h2, h3, h4, h5, h6⟩
    · cases h
  · cases h
theorem put_fld (hr : HR G ρ H eh) (hc : Cd G.K (G.ct c)) {fs : List (Option EV)} {i : Nat} {f : Str} {v : EV} {y : V} {a dx : Addr} {l : List (Str × V)} (hi : (G.ct c).2[i]? = some f) (hn : ρ[n]? = some (true, a)) (ha : H a = some (.ins (G.ct c).1 dx l)) (h3 : fs.length = (G.ct c).2.length)
    (h4 : l.length ≤ cnt fs) (h5 : ∀ (i : Nat) (x : Option EV), fs[i]? = some x → ∀ m, (G.ct c).2[i]? = some m → FR (VR G.K ρ H) x (l.lookup m)) (h6 : ∀ m, m ∉ (G.ct c).2 → l.lookup m = none) (hv : VR G.K ρ H v y) :
    Ext G.K ρ ρ H (upd H a (.ins (G.ct c).1 dx (putF f y l))) ∧ HR G ρ (upd H a (.ins (G.ct c).1 dx (putF f y l))) (eh.set n (.obj c (fs.set i (some v)))) := by
  have e : Ext G.K ρ ρ H (upd H a (.ins (G.ct c).1 dx (putF f y l))) := Ext.write _ hn ha (fun _ z => by cases z) (fun _ _ z => by cases z) pln_ins
  have hil : i < fs.length := by rw [h3]; exact (List.getElem?_eq_some_iff.mp hi).1
  refine ⟨e, hr.write hn rfl e ⟨dx, _, upd_same, by rw [List.length_set]; exact h3, ?_, fun j x hx m hm => ?_, fun m hm => ?_⟩⟩
  · show _ ≤ cnt _
    obtain ⟨c1, c2⟩ := cnt_set (fs := fs) (i := i) v hil
    have hf := h5 i fs[i] (List.getElem?_eq_getElem hil) f hi
    cases q : fs[i] with
    | none =>
      have := c2 (by rw [List.getElem?_eq_getElem hil, q])
      have := length_putF f y l
      omega
    | some z =>
      rw [q] at hf
      cases w : l.lookup f with
      | none => rw [w] at hf; exact hf.elim
      | some z' => rw [putF_len w]; omega
  · rw [lookup_putF]
    by_cases hj : i = j
    · subst hj
      rw [List.getElem?_set_self hil] at hx
      cases hx
      rw [hi] at hm
      cases hm
      rw [if_pos rfl]
      exact VR.mono e _ _ hv
    · rw [List.getElem?_set_ne hj] at hx
      have hmf : m ≠ f := fun z => hj (by
        subst z
        exact nodup_at hc.nd hi hm)
      rw [if_neg hmf]
      exact (h5 j x hx m hm).mono fun x v => VR.mono e x v
  · rw [lookup_putF, if_neg (show ¬ m = f from fun z => hm (by rw [z]; exact List.mem_of_getElem? hi))]
    exact h6 m hm
end
def dFld (c i : Nat) (o : DE) : DE := fun es h => (o es h).bind fun x h1 => match x with
  | .ref n => match objAt c h1 n with
    | some fs => match fs[i]? with
      | some (some v) => .ok v h1
      | _ => .no
    | none => .no
  | _ => .no
def dSetF (c i : Nat) (o v : DE) : DS := fun es h => (v es h).bind fun y h1 => (o es h1).bind fun x h2 => match x with
  | .ref n => match objAt c h2 n with
    | some fs => .ok (.nx es) (h2.set n (.obj c (fs.set i (some y))))
    | none => .no
  | _ => .no
def dAugF (c i : Nat) (f : D2) (o v : DE) : DS := fun es h => (o es h).bind fun x h1 => match x with
  | .ref n => match objAt c h1 n with
    | some fs => match fs[i]? with
      | some (some w) => (v es h1).bind fun y h2 => (f w y h2).bind fun z h3 => match objAt c h3 n with
        | some fs' => .ok (.nx es) (h3.set n (.obj c (fs'.set i (some z))))
        | none => .no
      | _ => .no
    | none => .no
  | _ => .no
def dMeth (c : Nat) (fn : DL) (o : DE) (a : DA) : DE := fun es h => (o es h).bind fun x h1 => match x with
  | .ref n => match objAt c h1 n with
    | some _ => (a es h1).bind fun xs h2 => (fn (x :: xs) h2).noer
    | none => .no
  | _ => .no
def dMake (c nf : Nat) (fn : DL) (a : DA) : DE := fun es h => (a es h).bind fun xs h1 => (fn (.ref h1.length :: xs) (h1 ++ [.obj c (List.replicate nf none)])).noer.bind fun v h2 => match v with
  | .non => .ok (.ref h1.length) h2
  | _ => .no
section
variable {X : Cx} {ct : Nat → Addr × List Str} {E : XK} {e o : Expr} {es : List Expr} {pos p : Pos} {d dv : DE} {dr : DA} {f : Str}
theorem xe_fld (c i : Nat) (hc : Cd X.K (ct c)) (hi : (ct c).2[i]? = some f) (ho : PEd X ct E o d) (hb : attributeBase o f X.env (eval o X.env) = eval o X.env := by rfl) : PEd X ct E (.Attribute o f pos) (dFld c i d) := by
  obtain ⟨t, h1, h2⟩ := ho
  refine ⟨_, pe_fld h1 hb, fun ρ σ H es eh Q rel h => ?_⟩
  refine h2.bind rel h fun ρ1 H1 x eh1 u e1 rel1 v1 h1 => ?_
  split at h1
  · rename_i n
    split at h1
    · rename_i fs e2
      split at h1
      · rename_i v e3
        obtain ⟨a, dx, l, g1, g2, g3, g4, g5, g6, g7⟩ := obj_of rel1.hr e2
        obtain ⟨a', q1, rfl⟩ := vr_ref.mp v1
        rw [g1] at q1; cases q1
        have k := g6 i _ e3 f hi
        cases w : l.lookup f with
        | none => rw [w] at k; exact k.elim
        | some z =>
          rw [w] at k
          exact ⟨a, _, dx, l, z, rfl, g3, hc.cl, hc.no f (List.mem_of_getElem? hi), w, h1 ρ1 H1 _ (Ext.refl _ _ _) rel1.hr k⟩
      · exact h1.elim
    · exact h1.elim
  · exact h1.elim
theorem xs_fld {pos' : Pos} (c i : Nat) (hc : Cd X.K (ct c)) (hi : (ct c).2[i]? = some f) (ho : PEd X ct E o d) (hv : PEd X ct E e dv) (hs : swapsWith e (some (.Attribute o f pos')) pos.line X.env = pure false := by rfl) : PSd X ct E (.Assign [.Attribute o f pos'] e pos) (dSetF c i d dv) := by
  obtain ⟨t, h1, h2⟩ := ho
  obtain ⟨u, k1, k2⟩ := hv
  refine ⟨_, ps_fld h1 k1 hs, fun ρ σ H es eh D rel h => ?_⟩
  refine k2.bind rel h fun ρ1 H1 y eh1 w e1 rel1 v1 h1 => ?_
  refine h2.bind rel1 h1 fun ρ2 H2 x eh2 u e2 rel2 v2 h2 => ?_
  split at h2
  · rename_i n
    split at h2
    · rename_i fs e3
      obtain ⟨a, dx, l, g1, g2, g3, g4, g5, g6, g7⟩ := obj_of rel2.hr e3
      obtain ⟨a', q1, rfl⟩ := vr_ref.mp v2
      rw [g1] at q1; cases q1
      obtain ⟨e4, hr4⟩ := put_fld (v := y) rel2.hr hc hi g2 g3 g4 g5 g6 g7 (v1.mono e2)
      refine ⟨a, _, dx, l, rfl, g3, hc.cl, hc.no f (List.mem_of_getElem? hi), ?_, h2 ρ2 _ (.nx σ) e4 hr4 (rel2.sl.mono e4)⟩
      have := cnt_le fs
      have := hc.few
      have g4' : fs.length = (ct c).2.length := g4
      omega
    · exact h2.elim
  · exact h2.elim
theorem xs_fldaug {pos' : Pos} {op : Operator} {f2 : D2} (c i : Nat) (hc : Cd X.K (ct c)) (hi : (ct c).2[i]? = some f) (hop : Opd X ct E (inplaceOp op) f2) (ho : PEd X ct E o d) (hv : PEd X ct E e dv) : PSd X ct E (.AugAssign (.Attribute o f pos') op e pos) (dAugF c i f2 d dv) := by
  obtain ⟨t, h1, h2⟩ := ho
  obtain ⟨u, k1, k2⟩ := hv
  obtain ⟨r, r1, r2⟩ := hop
  refine ⟨_, ps_fldaug h1 k1 r1, fun ρ σ H es eh D rel h => ?_⟩
  refine h2.bind rel h fun ρ1 H1 x eh1 w e1 rel1 v1 h1 => ?_
  split at h1
  · rename_i n
    split at h1
    · rename_i fs e3
      split at h1
      · rename_i wv e4
        obtain ⟨a, dx, l, g1, g2, g3, g4, g5, g6, g7⟩ := obj_of rel1.hr e3
        obtain ⟨a', q1, rfl⟩ := vr_ref.mp v1
        rw [g1] at q1; cases q1
        have k := g6 i _ e4 f hi
        cases wl : l.lookup f with
        | none => rw [wl] at k; exact k.elim
        | some z =>
          rw [wl] at k
          refine ⟨a, _, dx, l, z, rfl, g3, hc.cl, hc.no f (List.mem_of_getElem? hi), wl, ?_⟩
          refine k2.bind rel1 h1 fun ρ2 H2 y eh2 yv e2 rel2 v2 h2 => ?_
          refine Snd2.bind r2 rel2.hr (VR.mono e2 _ _ k) v2 h2 fun ρ3 H3 zz eh3 zv e5 hr3 v3 h3 => ?_
          split at h3
          · rename_i fs' e6
            obtain ⟨a2, dx2, l2, j1, j2, j3, j4, j5, j6, j7⟩ := obj_of hr3 e6
            have ea : a2 = a := by
              have := (e2.trans e5).toExt0.get g1
              rw [j1] at this
              exact Option.some.inj this
            subst ea
            obtain ⟨e7, hr7⟩ := put_fld (v := zz) hr3 hc hi j2 j3 j4 j5 j6 j7 v3
            refine ⟨dx2, l2, j3, ?_, h3 ρ3 _ (.nx σ) e7 hr7 ((rel2.sl.mono e5).mono e7)⟩
            have := cnt_le fs'
            have := hc.few
            have j4' : fs'.length = (ct c).2.length := j4
            omega
          · exact h3.elim
      · exact h1.elim
    · exact h1.elim
  · exact h1.elim
end
section
variable {P : Program} {w : World} {K : PySem.W.Frag} {mg : Str → Option Value} {base : Heap} {ct : Nat → Addr × List Str}
def MethD (P : Program) (w : World) (K : Fg) (mg : Str → Option Value) (base : Heap) (ct : Nat → Addr × List Str) (k c : Nat) (m : Str) (fn : DL) : Prop := ∃ f fd ps, FnOk P w K mg base CX0 k f fd ps (spD0 ⟨K, ct⟩ fn) ∧ Meth K (ct c).1 m f ∧ Binds K fd ps []
def InitD (P : Program) (w : World) (K : Fg) (mg : Str → Option Value) (base : Heap) (ct : Nat → Addr × List Str) (k c : Nat) (fn : DL) : Prop := ∃ f fd ps, FnOk P w K mg base CX0 k f fd ps (spD0 ⟨K, ct⟩ fn) ∧ Mk K (ct c).1 f ∧ Binds K fd ps []
def TxM (K : Fg) (C : Addr) (m qual : Str) (st : Stmt) (ps : List Str) : Prop := ∃ f fd, Fun K m qual st f fd ∧ Meth K C m f ∧ Binds K fd ps []
def TxI (K : Fg) (C : Addr) (qual : Str) (st : Stmt) (ps : List Str) : Prop := ∃ f fd, Fun K "__init__" qual st f fd ∧ Mk K C f ∧ Binds K fd ps []
theorem methd_mk {c : Nat} {m qual : Str} {st : Stmt} {N ps : List Str} {k : Nat} {d : DS} (T : TxM K (ct c).1 m qual st ps) (S : FnScope N ps (defScope st))
    (h : ∀ (f : Addr) (cdv : Value) (A : Around) (outer : List Env) (s : Shared) (H : Hp) (E : XK), Room k (A.deeper (envOfC qual (defScope st) s.heap.objs.size f cdv)) → PSsd (cxOf CX0 P w K mg base N qual (defScope st) f cdv A outer s H E).nox ct E0 (defBody st) d) :
    MethD P w K mg base ct (k + 1) c m (dDef ps.length N.length d) := by
  obtain ⟨f, fd, F, hm, hb⟩ := T
  exact ⟨f, fd, ps, fn_d F S (h f), hm, hb⟩
theorem initd_mk {c : Nat} {qual : Str} {st : Stmt} {N ps : List Str} {k : Nat} {d : DS} (T : TxI K (ct c).1 qual st ps) (S : FnScope N ps (defScope st))
    (h : ∀ (f : Addr) (cdv : Value) (A : Around) (outer : List Env) (s : Shared) (H : Hp) (E : XK), Room k (A.deeper (envOfC qual (defScope st) s.heap.objs.size f cdv)) → PSsd (cxOf CX0 P w K mg base N qual (defScope st) f cdv A outer s H E).nox ct E0 (defBody st) d) :
    InitD P w K mg base ct (k + 1) c (dDef ps.length N.length d) := by
  obtain ⟨f, fd, F, hm, hb⟩ := T
  exact ⟨f, fd, ps, fn_d F S (h f), hm, hb⟩
theorem MethD.mono {j k c : Nat} {x : Str} {fn : DL} (F : MethD P w K mg base ct j c x fn) (h : j ≤ k) : MethD P w K mg base ct k c x fn := by
  obtain ⟨f, fd, ps, h1, h2⟩ := F
  exact ⟨f, fd, ps, h1.mono h, h2⟩
theorem InitD.mono {j k c : Nat} {fn : DL} (F : InitD P w K mg base ct j c fn) (h : j ≤ k) : InitD P w K mg base ct k c fn := by
  obtain ⟨f, fd, ps, h1, h2⟩ := F
  exact ⟨f, fd, ps, h1.mono h, h2⟩
end
section
variable {X : Cx} {ct : Nat → Addr × List Str} {E : XK} {e o : Expr} {es : List Expr} {pos p apos : Pos} {d : DE} {dr : DA} {m : Str}
theorem snd_meth {c k : Nat} {fn : DL} {to : TE} {ta : TA} (hn : m ∉ (ct c).2) (ho : SndE ⟨X.K, ct⟩ E to d) (ha : SndA ⟨X.K, ct⟩ E ta dr) : SndE ⟨X.K, ct⟩ E (tMeth (ct c).1 m (spD0 ⟨X.K, ct⟩ fn) [] E0 to ta) (dMeth c fn d dr) := fun ρ σ H es eh Q rel h => by
  refine ho.bind rel h fun ρ1 H1 x eh1 u e1 rel1 v1 h1 => ?_
  split at h1
  · rename_i n
    split at h1
    · rename_i fs e3
      obtain ⟨a, dx, l, g1, g2, g3, g4, g5, g6, g7⟩ := obj_of rel1.hr e3
      have v1' := v1
      obtain ⟨a', q1, rfl⟩ := vr_ref.mp v1
      rw [g1] at q1; cases q1
      refine ⟨a, dx, l, rfl, g3, g7 m hn, ?_⟩
      refine ha.bind rel1 h1 fun ρ2 H2 xs eh2 us e2 rel2 v2 h2 => ?_
      exact ⟨ρ2, .ref n :: xs, eh2, by rw [List.append_nil]; exact vrs_cons.mpr ⟨.ref a, us, rfl, VR.mono e2 _ _ v1', v2⟩, rel2.hr, wr_noer h2⟩
    · exact h1.elim
  · exact h1.elim
theorem xe_meth (c : Nat) {k : Nat} {fn : DL} (pl : Sem Bool) (hc : Cd X.K (ct c)) (F : MethD X.prog X.w X.K X.mg X.base ct k c m fn) (hr : Room k X.A) (hn : m ∉ (ct c).2) (ho : PEd X ct E o d) (ha : PAd X ct E (e :: es) dr)
    (hst : starEach (e :: es) X.env = (false, eval e X.env) :: starEach es X.env := by rfl) (hpl : (backTo pos (starEach es X.env)).any (·.1) = false := by rfl)
    (ht : eval (.Call (.Attribute o m apos) (e :: es) [] pos) X.env = (do
      let ov ← eval o X.env
      standAt apos.atName
      let (f, first) ← holding [ov] (getMethod ov m pl)
      callWith pos f first (backTo pos (starEach (e :: es) X.env)) (backToKw pos (keywordEach [] X.env))) := by rfl) :
    PEd X ct E (.Call (.Attribute o m apos) (e :: es) [] pos) (dMeth c fn d dr) := by
  obtain ⟨f, fd, ps, h1, hm, hb⟩ := F
  obtain ⟨t, a1, a2⟩ := ho
  obtain ⟨u, b1, b2⟩ := ha
  exact ⟨_, pe_meth (pl := pl) a1 hc.cl hm h1 hr hb .nil pass0 b1 hst hpl ht, snd_meth (k := k) hn a2 b2⟩
theorem xe_meth0 (c : Nat) {k : Nat} {fn : DL} (pl : Sem Bool) (hc : Cd X.K (ct c)) (F : MethD X.prog X.w X.K X.mg X.base ct k c m fn) (hr : Room k X.A) (hn : m ∉ (ct c).2) (ho : PEd X ct E o d)
    (ht : eval (.Call (.Attribute o m apos) [] [] pos) X.env = (do
      let ov ← eval o X.env
      standAt apos.atName
      let (f, first) ← holding [ov] (getMethod ov m pl)
      callWith pos f first (backTo pos (starEach [] X.env)) (backToKw pos (keywordEach [] X.env))) := by rfl) :
    PEd X ct E (.Call (.Attribute o m apos) [] [] pos) (dMeth c fn d dNil) := by
  obtain ⟨f, fd, ps, h1, hm, hb⟩ := F
  obtain ⟨t, a1, a2⟩ := ho
  exact ⟨_, pe_meth0 (pl := pl) a1 hc.cl hm h1 hr hb .nil pass0 ht, snd_meth (k := k) hn a2 snd_nil⟩
theorem xe_make (c : Nat) {k : Nat} {x : Str} {fn : DL} (F : InitD X.prog X.w X.K X.mg X.base ct k c fn) (hr : Room (k + 1) X.A) (hg : Gl X x) (hm : X.mg x = some (.ref (ct c).1)) (ha : PAd X ct E (e :: es) dr)
    (hdb : (x == ("__debug__" : Str)) = false := by decide) (he : starEach (e :: es) X.env = (false, eval e X.env) :: starEach es X.env := by rfl) (hpl : (backTo pos (starEach es X.env)).any (·.1) = false := by rfl) :
    PEd X ct E (.Call (.Name x p) (e :: es) [] pos) (dMake c (ct c).2.length fn dr) := by
  obtain ⟨f, fd, ps, h1, hM, hb⟩ := F
  obtain ⟨u, b1, b2⟩ := ha
  refine ⟨_, pe_make hM h1 hr hg hm hb .nil pass0 b1 hdb he hpl, fun ρ σ H es eh Q rel h => ?_⟩
  refine b2.bind rel h fun ρ1 H1 xs eh1 us e1 rel1 v1 h1 => ?_
  intro a dx na ndx nex
  have nadx : a ≠ dx := fun z => nex z.symm
  have hr1 := rel1.hr.side (HO.own a) ndx
  have e2 : Ext X.K ρ1 ρ1 H1 (upd H1 dx (.own a)) := Ext.side _ ndx
  have na2 : upd H1 dx (.own a) a = none := by rw [upd_ne nadx]; exact na
  have e3 : Ext X.K ρ1 (ρ1 ++ [(true, a)]) (upd H1 dx (.own a)) (upd (upd H1 dx (.own a)) a (.ins (ct c).1 dx [])) := Ext.alloc _ na2
  have ho : OR ⟨X.K, ct⟩ (ρ1 ++ [(true, a)]) (upd (upd H1 dx (.own a)) a (.ins (ct c).1 dx [])) (.obj c (List.replicate (ct c).2.length none)) a := by
    refine ⟨dx, [], upd_same, by simp, by simp, fun i x hx m hm => ?_, fun m _ => rfl⟩
    rw [List.getElem?_replicate] at hx
    split at hx
    · cases hx; exact True.intro
    · cases hx
  have hr3 := hr1.alloc na2 rfl ho
  have hl := rel1.hr.len
  have hv : VR X.K (ρ1 ++ [(true, a)]) (upd (upd H1 dx (.own a)) a (.ins (ct c).1 dx [])) (.ref eh1.length) (.ref a) := vr_ref.mpr ⟨a, last_get hl, rfl⟩
  refine ⟨ρ1 ++ [(true, a)], .ref eh1.length :: xs, eh1 ++ [.obj c (List.replicate (ct c).2.length none)], ?_, hr3, ?_⟩
  · rw [List.append_nil]
    exact vrs_cons.mpr ⟨.ref a, us, rfl, hv, VRs.mono (e2.trans e3) _ _ v1⟩
  · have h2 := h1.mono (e2.trans e3)
    cases q : fn (.ref eh1.length :: xs) (eh1 ++ [.obj c (List.replicate (ct c).2.length none)]) with
    | no => rw [q] at h2; exact h2
    | er z h' => rw [q] at h2; exact h2.elim
    | ok v h' =>
      rw [q] at h2
      intro ρ4 H4 vv e4 hr4 r4
      simp only [noer_ok, bind_ok] at h2
      split at h2
      · exact ⟨vr_non.mp r4, h2 ρ4 H4 (.ref a) e4 hr4 (VR.mono e4 _ _ hv)⟩
      · exact h2.elim
end
end EE
set_option Elab.async false
set_option linter.all false
set_option maxRecDepth 100000
set_option maxHeartbeats 1000000
namespace EE
open PySem PySem.Spec PyProof.Rows L2
def Tx2 (H H' : Hp) : Prop := (∀ a xs, H a = some (.tup xs) → H' a = some (.tup xs)) ∧ ∀ a fs, H a = some (.xd fs) → H' a = some (.xd fs)
section
variable {K : Fg} {ρ : Rho} {H H' : Hp}
mutual
theorem VR.monoT (ht : Tx2 H H') : ∀ (x : EV) (v : V), VR K ρ H x v → VR K ρ H' x v
  | .non, v, h => by simp only [VR] at h ⊢; exact h
  | .bl b, v, h => by simp only [VR] at h ⊢; exact h
  | .int i, v, h => by simp only [VR] at h ⊢; exact h
  | .str s, v, h => by simp only [VR] at h ⊢; exact h
  | .ty n, v, h => by simp only [VR] at h ⊢; exact h
  | .exc a d nm fs, v, h => by
    simp only [VR] at h ⊢
    obtain ⟨h1, vs, h2, h3⟩ := h
    exact ⟨h1, vs, VRs.monoT ht fs vs h2, fun dd hd => ht.2 _ _ (h3 dd hd)⟩
  | .ref n, v, h => by simp only [VR] at h ⊢; exact h
  | .tup xs, v, h => by
    simp only [VR] at h ⊢
    obtain ⟨a, vs, h1, h2, h3⟩ := h
    exact ⟨a, vs, h1, ht.1 _ _ h2, VRs.monoT ht xs vs h3⟩
theorem VRs.monoT (ht : Tx2 H H') : ∀ (xs : List EV) (vs : List V), VRs K ρ H xs vs → VRs K ρ H' xs vs
  | [], vs, h => by simp only [VRs] at h ⊢; exact h
  | x :: xs, vs, h => by
    simp only [VRs] at h ⊢
    obtain ⟨v, r, h1, h2, h3⟩ := h
    exact ⟨v, r, h1, VR.monoT ht x v h2, VRs.monoT ht xs r h3⟩
end
end
section
variable {G : Gx} {ρ ρ' : Rho} {H H' : Hp} {eh : EH} {n : Nat} {a : Addr} {u : HO} {od : Obj} {t : Bool} {kvs : List (EV × EV)}
theorem OR.keepT (ht : Tx2 H H') (hq : ∀ b vs, RoL G.K H b vs → RoL G.K H' b vs) {o : EO} {b : Addr} (hb : o.mu = true → H' b = H b) (h : OR G ρ H o b) : OR G ρ H' o b := by
  have m := fun x v => VR.monoT (K := G.K) (ρ := ρ) ht x v
  cases o with
  | lst xs =>
    obtain ⟨vs, h1, h2⟩ := h
    exact ⟨vs, by rw [hb rfl]; exact h1, VRs.monoT ht _ _ h2⟩
  | ro xs =>
    obtain ⟨vs, h1, h2⟩ := h
    exact ⟨vs, hq _ _ h1, VRs.monoT ht _ _ h2⟩
  | dic t kvs =>
    obtain ⟨u, h1, h2⟩ := h
    exact ⟨u, by rw [hb rfl]; exact h1, h2.mono m⟩
  | lkd t kvs =>
    obtain ⟨f, u, h1, h2⟩ := h
    exact ⟨f, u, by rw [hb rfl]; exact h1, h2.mono m⟩
  | obj c fs =>
    obtain ⟨dx, l, h1, h2, h3, h4, h5⟩ := h
    exact ⟨dx, l, by rw [hb rfl]; exact h1, h2, h3, fun i x hx n hn => (h4 i x hx n hn).mono m, h5⟩
  | nd ks =>
    obtain ⟨ys, h1, h2⟩ := h
    exact ⟨ys, by rw [hb rfl]; exact h1, h2.mono m⟩
theorem DR.nlst {R : EV → V → Prop} : ∀ {t : Bool} {kvs : List (EV × EV)} {u : HO}, DR R t kvs u → ∀ xs, u ≠ .lst xs
  | false, _, _, ⟨l, e, q⟩, _, z => by subst e; cases z
  | true, _, _, ⟨l, e, q⟩, _, z => by subst e; cases z
theorem lock_dic (hr : HR G ρ H eh) (hn : ρ[n]? = some (true, a)) (ha : H a = some u) (hd : DR (VR G.K ρ H) t kvs u) (od : Obj) : Ext G.K ρ ρ H (upd H a (.frz od u)) ∧ HR G ρ (upd H a (.frz od u)) (eh.set n (.lkd t kvs)) := by
  have e : Ext G.K ρ ρ H (upd H a (.frz od u)) := Ext.write _ hn ha hd.ntup hd.nfrz hd.pln
  exact ⟨e, hr.write hn rfl e ⟨od, u, upd_same, hd.mono fun x v => VR.mono e x v⟩⟩
theorem unlock_ext (hn : (true, a) ∈ ρ) (ha : H a = some u) (h1 : ∀ xs, u ≠ .tup xs) (h2 : ∀ o v, u ≠ .frz o v) (h3 : NoTb u) (e : Ext G.K ρ ρ' (upd H a (.frz od u)) H') : Ext G.K ρ ρ' H (upd H' a u) where
  pre := e.pre
  tup := fun b xs h => by
    have nb : b ≠ a := fun z => by subst z; rw [ha] at h; cases h; exact h1 _ rfl
    rw [upd_ne nb]
    exact e.tup _ _ (by rw [upd_ne nb]; exact h)
  frz := fun b o v h => by
    have nb : b ≠ a := fun z => by subst z; rw [ha] at h; cases h; exact h2 _ _ rfl
    rw [upd_ne nb]
    exact e.frz _ _ _ (by rw [upd_ne nb]; exact h)
  new := fun b hb => by
    rcases e.new b hb with z | z
    · exact .inl z
    · right
      intro o ho
      by_cases nb : b = a
      · subst nb
        obtain ⟨ps, q⟩ := z _ upd_same
        cases q
      · exact z o (by rw [upd_ne nb]; exact ho)
  xd := fun b fs h => by
    have nb : b ≠ a := fun z => by subst z; rw [ha] at h; cases h; exact h3.2.2 _ rfl
    rw [upd_ne nb]
    exact e.xd _ _ (by rw [upd_ne nb]; exact h)
  rest := fun b o h ht hb => by
    have nb : b ≠ a := fun q => by subst q; exact hb hn
    rw [upd_ne nb]
    exact e.rest _ _ (by rw [upd_ne nb]; exact h) ht hb
theorem unlock_hr (hr : HR G ρ' H' eh) (hn : ρ'[n]? = some (true, a)) (ha : H' a = some (.frz od u)) (hd : DR (VR G.K ρ' H') t kvs u) : HR G ρ' (upd H' a u) (eh.set n (.dic t kvs)) := by
  have ht : Tx2 H' (upd H' a u) := ⟨fun b xs h => by
    rw [upd_ne (fun z => by subst z; rw [ha] at h; cases h)]
    exact h, fun b xs h => by
    rw [upd_ne (fun z => by subst z; rw [ha] at h; cases h)]
    exact h⟩
  have hq : ∀ b vs, RoL G.K H' b vs → RoL G.K (upd H' a u) b vs := fun b vs h => by
    rcases h with ⟨o, h⟩ | h
    · refine .inl ⟨o, ?_⟩
      rw [upd_ne (fun z => by
        subst z
        rw [ha] at h
        cases h
        exact hd.nlst _ rfl)]
      exact h
    · exact .inr h
  refine ⟨tabs_upd hr.tab (fun v hv => by rw [ha] at hv; cases hv; exact pln_frz), by rw [List.length_set]; exact hr.len, hr.dis, fun j z hz => ?_⟩
  by_cases hj : n = j
  · subst hj
    have hl : n < eh.length := by
      have := (List.getElem?_eq_some_iff.mp hz).1
      simpa using this
    rw [List.getElem?_set_self hl] at hz
    cases hz
    exact ⟨a, hn, u, upd_same, hd.mono fun x v => VR.monoT ht x v⟩
  · rw [List.getElem?_set_ne hj] at hz
    obtain ⟨b, hb, hO⟩ := hr.obj j z hz
    refine ⟨b, hb, hO.keepT ht hq fun hm => upd_ne fun q => hj ?_⟩
    subst q
    rw [hm] at hb
    exact hr.dis n j b hn hb
end
def lkAt (h : EH) (n : Nat) : Option (Bool × List (EV × EV)) := match h[n]? with
  | some (.lkd t kvs) => some (t, kvs)
  | _ => none
def rLock {α : Type} (sel : DE) (es : ES) (h : EH) (k : EH → Res α) : Res α := match sel es h with
  | .ok (.ref n) _ => match mdicAt h n with
    | some (t, kvs) => (k (h.set n (.lkd t kvs))).noer.bind fun v h1 => match lkAt h1 n with
      | some (t', kvs') => .ok v (h1.set n (.dic t' kvs'))
      | none => .no
    | none => .no
  | _ => .no
def dLockE (sel d : DE) : DE := fun es h => rLock sel es h fun h1 => d es h1
def dLockS (sel : DE) (d : DS) : DS := fun es h => rLock sel es h fun h1 => d es h1
section
variable {G : Gx} {E : XK}
theorem lk_of {ρ : Rho} {H : Hp} {eh : EH} {n : Nat} {t : Bool} {kvs : List (EV × EV)} (hr : HR G ρ H eh) (h : lkAt eh n = some (t, kvs)) : ∃ a f u, ρ[n]? = some (true, a) ∧ H a = some (.frz f u) ∧ DR (VR G.K ρ H) t kvs u := by
  unfold lkAt at h
  split at h
  · rename_i t ys e
    cases h
    obtain ⟨a, h1, f, u, h2, h3⟩ := hr.obj n _ e
    exact ⟨a, f, u, h1, h2, h3⟩
  · cases h
theorem lock_any {α β : Type} {R : Rho → Hp → α → β → Prop} (hR : ∀ ρ H H' x v, Tx2 H H' → R ρ H x v → R ρ H' x v) {sel : DE} {k : EH → Res α} {ρ : Rho} {σ : L2.St} {H : Hp} {es : ES} {eh : EH} {Q : β → Hp → Prop}
    (rel : Rel G ρ σ H es eh) (h : wr G R ρ H (rLock sel es eh k) Q E) :
    ∃ d u, H d = some u ∧ L2.Mut (some u) ∧ ∀ od, ∃ eh1, Rel G ρ σ (upd H d (.frz od u)) es eh1 ∧ wr G R ρ (upd H d (.frz od u)) (k eh1) (fun v H' => H' d = some (.frz od u) ∧ Q v (upd H' d u)) E := by
  unfold rLock at h
  split at h
  · rename_i n _ _
    split at h
    · rename_i t kvs e1
      obtain ⟨a, u, g1, g2, g3, g4⟩ := mdic_of rel.hr e1
      refine ⟨a, u, g2, g3.mt, fun od => ⟨eh.set n (.lkd t kvs), ?_⟩⟩
      obtain ⟨e2, hr2⟩ := lock_dic rel.hr g4 g2 g3 od
      refine ⟨rel.ext e2 hr2, ?_⟩
      cases q : k (eh.set n (.lkd t kvs)) with
      | no => rw [q] at h; exact h
      | er z h' => rw [q] at h; exact h.elim
      | ok v h' =>
        rw [q] at h
        simp only [noer_ok, bind_ok] at h
        intro ρ' H' w e hr' r
        have hfz := e.frz _ _ _ upd_same
        refine ⟨hfz, ?_⟩
        split at h
        · rename_i t' kvs' e3
          obtain ⟨a', f', u', j1, j2, j3⟩ := lk_of hr' e3
          have ea := e.toExt0.at g4
          rw [j1] at ea
          cases ea
          rw [hfz] at j2
          cases j2
          refine h ρ' _ w (unlock_ext (List.mem_of_getElem? g4) g2 g3.ntup g3.nfrz g3.pln e) (unlock_hr hr' j1 hfz j3) (hR _ _ _ _ _ ⟨fun b xs hb => ?_, fun b xs hb => ?_⟩ r)
          · rw [upd_ne (fun z => by subst z; rw [hfz] at hb; cases hb)]
            exact hb
          · rw [upd_ne (fun z => by subst z; rw [hfz] at hb; cases hb)]
            exact hb
        · exact h.elim
    · exact h.elim
  · exact h.elim
variable {X : Cx} {ct : Nat → Addr × List Str} {e : Expr} {st : Stmt} {d sel : DE} {ds : DS}
theorem xe_lock (sel : DE) (h : PEd X ct E e d) : PEd X ct E e (dLockE sel d) := by
  obtain ⟨t, h1, h2⟩ := h
  refine ⟨_, pe_lock h1, fun ρ σ H es eh Q rel hw => ?_⟩
  obtain ⟨a, u, g1, g2, g3⟩ := lock_any (R := VR X.K) (k := fun h1 => d es h1) (fun ρ H H' x v ht r => VR.monoT ht x v r) rel hw
  refine ⟨a, u, g1, g2, fun od => ?_⟩
  obtain ⟨eh1, rel1, w1⟩ := g3 od
  exact h2 ρ σ _ es eh1 _ rel1 w1
theorem xs_lock (sel : DE) (h : PSd X ct E st ds) : PSd X ct E st (dLockS sel ds) := by
  obtain ⟨t, h1, h2⟩ := h
  refine ⟨_, ps_lock h1, fun ρ σ H es eh D rel hw => ?_⟩
  obtain ⟨a, u, g1, g2, g3⟩ := lock_any (R := RF ⟨X.K, ct⟩) (fun ρ H H' x v ht r => by
    have key : ∀ {es : ES} {σ : L2.St}, SR X.K ρ H es σ → SR X.K ρ H' es σ := fun q => ⟨q.1, fun i v hv => by
      obtain ⟨u, h1, h2⟩ := q.2 i v hv
      exact ⟨u, h1, VR.monoT ht _ _ h2⟩⟩
    cases x with
    | nx es => cases v with
      | nx σ => exact key r
      | _ => exact r.elim
    | rt x => cases v with
      | rt v => exact VR.monoT ht _ _ r
      | _ => exact r.elim
    | bk es => cases v with
      | bk σ => exact key r
      | _ => exact r.elim
    | ct es => cases v with
      | ct σ => exact key r
      | _ => exact r.elim) rel hw
  refine ⟨a, u, g1, g2, fun od => ?_⟩
  obtain ⟨eh1, rel1, w1⟩ := g3 od
  refine h2 ρ σ _ es eh1 _ rel1 ?_
  cases q : ds es eh1 with
  | no => rw [q] at w1; exact w1
  | er z h' => rw [q] at w1; exact w1
  | ok v h' =>
    rw [q] at w1
    intro ρ' H' w e hr r
    have := w1 ρ' H' w e hr r
    cases w <;> exact this
end
def dItK (a : DE) : DI := fun es h => (a es h).bind fun x h1 => match x with
  | .ref n => match lkAt h1 n with
    | some (_, kvs) => .ok ⟨none, kvs.map (·.1), fun _ x => x⟩ h1
    | none => .no
  | _ => .no
section
variable {X : Cx} {ct : Nat → Addr × List Str} {E : XK} {G : Gx} {a tg : Expr} {da : DE}
theorem snd_itK {tl : TE} (ha : SndE G E tl da) : SndI G E (iKeys tl) (dItK da) := fun ρ σ H es eh Q rel h => by
  refine ha.bind rel h fun ρ1 H1 x eh1 v e1 rel1 v1 h1 => ?_
  split at h1
  · rename_i n
    split at h1
    · rename_i t kvs e2
      obtain ⟨p, f, u, g1, g2, g3⟩ := lk_of rel1.hr e2
      obtain ⟨p', q1, rfl⟩ := vr_ref.mp v1
      rw [adr_of g1] at q1; cases q1
      refine ⟨p, f, rfl, ?_⟩
      cases t with
      | false =>
        obtain ⟨l, rfl, hk⟩ := g3
        refine .inl ⟨l, g2, h1 ρ1 H1 _ (Ext.refl _ _ _) rel1.hr fun ρ' H' eh' xs e hr hc => ?_⟩
        cases hc
        have hz := e.frz _ _ _ g2
        refine ⟨fun i x hx => ?_, fun i hx => ?_⟩
        · rw [List.getElem?_map] at hx
          obtain ⟨p0, hp, rfl⟩ := Option.map_eq_some_iff.mp hx
          obtain ⟨k, w, k1, k2, k3⟩ := hk.at hp
          refine ⟨⟨hz, (List.getElem?_eq_some_iff.mp k1).1⟩, fun y H3 hy => ?_⟩
          obtain ⟨rfl, k', w', k1', rfl⟩ := hy
          rw [k1] at k1'
          cases k1'
          exact ⟨Ext.refl _ _ _, hr, keyOf_vr k2⟩
        · rw [List.getElem?_map, Option.map_eq_none_iff, List.getElem?_eq_none_iff] at hx
          exact ⟨hz, by rw [← hk.len]; exact hx⟩
      | true =>
        obtain ⟨l, rfl, hk⟩ := g3
        refine .inr ⟨l, g2, h1 ρ1 H1 _ (Ext.refl _ _ _) rel1.hr fun ρ' H' eh' xs e hr hc => ?_⟩
        cases hc
        have hz := e.frz _ _ _ g2
        refine ⟨fun i x hx => ?_, fun i hx => ?_⟩
        · rw [List.getElem?_map] at hx
          obtain ⟨p0, hp, rfl⟩ := Option.map_eq_some_iff.mp hx
          obtain ⟨k, w, k1, k2, k3⟩ := hk.at hp
          refine ⟨⟨hz, (List.getElem?_eq_some_iff.mp k1).1⟩, fun y H3 hy => ?_⟩
          obtain ⟨rfl, k', w', b, k1', rfl, hb⟩ := hy
          rw [k1] at k1'
          cases k1'
          exact ⟨Ext.refl _ _ _, hr, tkeyOf_vr k2 hb⟩
        · rw [List.getElem?_map, Option.map_eq_none_iff, List.getElem?_eq_none_iff] at hx
          exact ⟨hz, by rw [← hk.len]; exact hx⟩
    · exact h1.elim
  · exact h1.elim
theorem xi_keys (h : PEd X ct E a da) : PId X ct E tg a (dItK da) := by
  obtain ⟨t, h1, h2⟩ := h
  exact ⟨_, pi_keys h1, snd_itK h2⟩
end
def fKeysT : DL := fun xs h => match xs with
  | [.ref n] => match dicAt h n with
    | some (true, kvs) => .ok (.ref h.length) (h ++ [.lst (kvs.map (·.1))])
    | _ => .no
  | _ => .no
def fTupL : DL := fun xs h => match xs with
  | [.ref n] => match lstAt h n with
    | some ys => .ok (.tup ys) h
    | none => .no
  | _ => .no
section
variable {X : Cx} {ct : Nat → Addr × List Str} {E : XK} {G : Gx}
theorem keys_vrs {K : Fg} {ρ : Rho} {H : Hp} {R : EV → V → Prop} : ∀ {kvs : List (EV × EV)} {l : List (List Key × V)} {bs : List Addr}, KR tkeyOf R kvs l → IsKeys H l bs → VRs K ρ H (kvs.map (·.1)) (bs.map V.ref)
  | [], _, bs, h, q => by
    rw [h] at q
    cases bs with
    | nil => exact vrs_nil.mpr rfl
    | cons b bs => cases q
  | p :: ps, _, bs, ⟨k, v, r, e, h1, h2, h3⟩, q => by
    subst e
    cases q with
    | cons hb hr => exact vrs_cons.mpr ⟨_, _, rfl, tkeyOf_vr h1 hb, keys_vrs h3 hr⟩
theorem c_keysT (hc : X.calm = true) : Cld X ct E (.type "list") fKeysT := ⟨_, call_list_dT hc, fun ρ H eh xs as Q hr hx h => by
  unfold fKeysT at h
  split at h
  · rename_i n
    split at h
    · rename_i kvs e1
      obtain ⟨v, rfl, hv⟩ := vrs_one hx
      obtain ⟨a, u, g1, g2, g3⟩ := dic_of hr e1
      obtain ⟨a', q1, rfl⟩ := vr_ref.mp hv
      rw [g1] at q1; cases q1
      obtain ⟨l, rfl, hk⟩ := g3
      exact ⟨a, l, rfl, g2, fun p bs hp hb => new_lst hr (keys_vrs hk hb) h p hp⟩
    · exact h.elim
  · exact h.elim⟩
theorem c_tupL : Cld X ct E (.type "tuple") fTupL := ⟨_, call_tuple_of, fun ρ H eh xs as Q hr hx h => by
  unfold fTupL at h
  split at h
  · rename_i n
    split at h
    · rename_i ys e1
      obtain ⟨v, rfl, hv⟩ := vrs_one hx
      obtain ⟨a, vs, g1, g2, g3⟩ := lst_of hr e1
      obtain ⟨a', q1, rfl⟩ := vr_ref.mp hv
      rw [g1] at q1; cases q1
      refine ⟨a, vs, rfl, .inl ⟨g2, fun l hl => ?_⟩⟩
      exact h ρ _ _ (Ext.side _ hl) (hr.side _ hl) (vr_tup.mpr ⟨l, vs, rfl, upd_same, VRs.mono (Ext.side _ hl) _ _ g3⟩)
    · exact h.elim
  · exact h.elim⟩
end
end EE
set_option Elab.async false
set_option linter.all false
set_option maxRecDepth 100000
set_option maxHeartbeats 1000000
namespace EE
open PySem PySem.Spec PyProof.Rows L2 SrtO Srt
def pairAt (H : Hp) (b : Addr) : Int × Int := match H b with
  | some (.tup [.int i, .int j]) => (i, j)
  | _ => (0, 0)
def pv (H : Hp) : Value → Int × Int
  | .ref b => pairAt H b
  | _ => (0, 0)
def lexLe (p q : Int × Int) : Bool := !lexB q p
theorem lexLe_iff {p q : Int × Int} : lexLe p q = true ↔ p.1 < q.1 ∨ (p.1 = q.1 ∧ p.2 ≤ q.2) := by
  unfold lexLe
  rw [Bool.not_eq_true', lexB_no]
  omega
def psort (l : List (Int × Int)) : List (Int × Int) := l.mergeSort lexLe
theorem psort_perm (l : List (Int × Int)) : (psort l).Perm l := List.mergeSort_perm l _
theorem psort_pw (l : List (Int × Int)) : (psort l).Pairwise fun p q => lexLe p q = true := List.pairwise_mergeSort (fun a b c h1 h2 => by
  rw [lexLe_iff] at h1 h2 ⊢
  omega) (fun a b => by
  rw [Bool.or_eq_true, lexLe_iff, lexLe_iff]
  omega) l
theorem psort_eq {l m : List (Int × Int)} (h : m.Perm l) (hp : m.Pairwise fun p q => lexLe p q = true) : m = psort l := List.Perm.eq_of_pairwise (le := fun p q => lexLe p q = true) (fun a b _ _ h1 h2 => by
  rw [lexLe_iff] at h1 h2
  exact Prod.ext (by omega) (by omega)) hp (psort_pw l) (h.trans (psort_perm l).symm)
def isort (l : List Int) : List Int := l.mergeSort fun a b => decide (a ≤ b)
theorem isort_perm (l : List Int) : (isort l).Perm l := List.mergeSort_perm l _
theorem isort_pw (l : List Int) : (isort l).Pairwise (· ≤ ·) := (List.pairwise_mergeSort (le := fun a b : Int => decide (a ≤ b)) (fun a b c h1 h2 => by simp only [decide_eq_true_eq] at *; omega) (fun a b => by simp only [Bool.or_eq_true, decide_eq_true_eq]; omega) l).imp fun h => by simpa using h
theorem isort_eq {l m : List Int} (h : m.Perm l) (hp : m.Pairwise (· ≤ ·)) : m = isort l := List.Perm.eq_of_pairwise (le := (· ≤ ·)) (fun a b _ _ h1 h2 => by omega) hp (isort_pw l) (h.trans (isort_perm l).symm)
section
variable {X : Cx}
def rSortDT : List V → Hp → VK → Prop := fun xs H Q => ∃ (a : Addr) (kvs : List (List Key × V)), xs = [.ref a] ∧ Rd H a (.dT kvs) ∧ (∀ p ∈ kvs, ∃ i j : Int, p.1 = [.inl i, .inl j]) ∧
  ∀ (bs ys : List Addr) (p : Addr), IsKeys H kvs bs → ys.Perm bs → (ys.map (pairAt H)).Pairwise (fun p q => lexLe p q = true) → H p = none → Q (.ref p) (upd H p (.lst (ys.map V.ref)))
theorem isKeys_at {H : Hp} : ∀ {kvs : List (List Key × V)} {bs : List Addr}, IsKeys H kvs bs → ∀ b ∈ bs, ∃ p ∈ kvs, H b = some (.tup (p.1.map kV))
  | _, _, .nil, b, h => absurd h (by simp)
  | _, _, .cons (a := p) hb hr, b, h => by
    rcases List.mem_cons.mp h with e | h
    · subst e
      exact ⟨p, List.mem_cons_self, hb⟩
    · obtain ⟨q, hq, e⟩ := isKeys_at hr b h
      exact ⟨q, List.mem_cons_of_mem _ hq, e⟩
theorem call_sortedDT (hcalm : X.calm = true) : CallR X (.builtin "sorted") rSortDT := by
  intro pins s σ H xs us Q I r h
  obtain ⟨d, kvs, rfl, hd, hk, q⟩ := h
  obtain ⟨u, rfl, rx⟩ := r.one
  cases rx
  obtain ⟨z, hsys, raw, hpr, o, ents, ep, ho, hx, hdat, he, hn⟩ := (show ObjOk X.prog X.w H s.heap d (.dT kvs) from hd.ok I.hok)
  have c1 : ents.size = raw.length := size_of_entries he
  have c2 : kvs.length = raw.length := Paired.length hpr
  have h16 : ents.size ≤ sizeLine := by omega
  refine Calls.call_function_entry PyProof.Rows.kind_sorted PyProof.Rows.plain_sorted PyProof.Rows.entry_sorted (PyProof.Rows.args_sorted1 _) ?_
  unfold Builtin.«sorted»
  refine wpAny_bind (m := checkCount "sorted" 1 1 _) (wpAny_pure ?_)
  refine wpAny_bind (PySem.W.kdu_collect (A := X.A.in1) (kdl_raw hsys hx hdat) (I.ok.hd hcalm) ho h16 fun h' tk got stay walked => ?_)
  have ea : got.toList = raw.map fun x => Value.ref x.2.1 := by
    have hl : got.toList.length = raw.length := by rw [Array.length_toList, walked.1]; exact c1
    apply List.ext_getElem?
    intro j
    rw [List.getElem?_map]
    cases hjj : got.toList[j]? with
    | none =>
      have h1 := List.getElem?_eq_none_iff.mp hjj
      rw [List.getElem?_eq_none (by omega)]
      all_goals rfl
    | some v =>
      obtain ⟨ent, hent, hv⟩ := walked.2 j v (by rw [← Array.getElem?_toList]; exact hjj)
      have heq := entry_at he j
      rw [hent] at heq
      cases hbb : raw[j]? with
      | none =>
        rw [hbb] at heq
        exact nomatch (show some ent = none from heq)
      | some b =>
        rw [hbb] at heq
        have e2 := Option.some.inj heq
        rw [hv, e2]
        all_goals rfl
  generalize hbs : (raw.map fun x => x.2.1) = bs at *
  have eb : got.toList = bs.map Value.ref := by rw [ea, ← hbs, List.map_map]; all_goals rfl
  have hK : IsKeys H kvs bs := by rw [← hbs]; exact isKeys_of hpr
  have hlen : got.toList.length = bs.length := by rw [eb, List.length_map]
  have hbl : bs.length = raw.length := by rw [← hbs, List.length_map]
  have I1 : Inv X pins σ H { s with heap := h', toks := tk } := I.kept stay
  have hL : got.toList.length ≤ sizeLine := by omega
  refine wpAny_bind (wpAny_newList ?_ hL)
  have hgl : (h'.push (seqObj "list" got.toList.toArray 0)).get? h'.objs.size = some (seqObj "list" got.toList.toArray 0) := Heap.get?_push_size _ rfl
  show wpAny _ _ _ _ _ { s with heap := h'.push (seqObj "list" got.toList.toArray 0), toks := tk }
  have hp : ∀ v ∈ got.toList, IsPair (h'.push (seqObj "list" got.toList.toArray 0)) v (pv H v).1 (pv H v).2 := fun v hv => by
    rw [eb] at hv
    obtain ⟨b, hbb, rfl⟩ := List.mem_map.mp hv
    obtain ⟨p, hpm, hHb⟩ := isKeys_at hK b hbb
    obtain ⟨i, j, hij⟩ := hk p hpm
    rw [hij] at hHb
    have epv : pv H (.ref b) = (i, j) := by
      show pairAt H b = (i, j)
      unfold pairAt
      rw [hHb]
      rfl
    rw [epv]
    obtain ⟨_, its2, r2, o2, ho2, hc2, n2, hd2⟩ := I1.hok b _ hHb
    obtain ⟨w1, w2, rfl, r1, r2b⟩ := vals2 r2
    obtain ⟨t1, rfl⟩ := r1
    obtain ⟨t2, rfl⟩ := r2b
    exact ⟨b, o2, t1, t2, n2, rfl, Heap.get?_push_of_some _ ho2, hc2, hd2⟩
  refine wpAny_bind (wpAny_holding (wpAny_call_entry PyProof.Rows.slot_list_sort ⟨_, hgl, rfl⟩ PyProof.Rows.entry_list_sort
    (SrtO.list_sort_ord (s := { s with heap := h'.push (seqObj "list" got.toList.toArray 0), toks := tk }) (SrtO.swo_lex fun u => pv H u) hgl hL (fun h2 => SrtO.pairs_sortableO (by omega) hp fun o e => ?_) fun out h1 h2 => ⟨_, rfl, ?_⟩) (PyProof.Rows.args_list_sort _)))
  · have e' : some o = some (seqObj "list" got.toList.toArray 0) := e.symm.trans hgl
    cases e'
    intro c
    exact absurd (Value.type.inj c) (by decide)
  · obtain ⟨e', he'⟩ := PyProof.Rows.sortedHeap_at (vs := got.toList) (out := out.toArray) hgl
    obtain ⟨ys, hys⟩ : ∃ ys : List Addr, out = ys.map Value.ref := by
      refine ⟨out.map fun v => match v with | .ref b => b | _ => 0, ?_⟩
      rw [List.map_map]
      refine (List.map_id' out).symm.trans (List.map_congr_left fun v hv => ?_)
      have hm := h2.perm.mem_iff.mp hv
      rw [eb] at hm
      obtain ⟨b, _, rfl⟩ := List.mem_map.mp hm
      rfl
    have hperm : ys.Perm bs := by
      have := h2.perm
      rw [hys, eb] at this
      have h3 := this.map fun v => match v with | .ref b => b | _ => 0
      rw [List.map_map, List.map_map] at h3
      have e3 : ∀ l : List Addr, l.map ((fun v => match v with | Value.ref b => b | _ => 0) ∘ Value.ref) = l := fun l => by
        rw [show ((fun v => match v with | Value.ref b => b | _ => 0) ∘ Value.ref) = id from rfl, List.map_id]
      rw [e3, e3] at h3
      exact h3
    have hsort : (ys.map (pairAt H)).Pairwise (fun p q => lexLe p q = true) := by
      rw [List.pairwise_map]
      have h3 := h1
      rw [hys] at h3
      have h4 := List.pairwise_map.mp h3
      refine h4.imp fun {x y} hxy => ?_
      have hxy : lexB (pairAt H y) (pairAt H x) = false := hxy
      unfold lexLe
      rw [hxy]
      rfl
    have hz : (ys.map V.ref).length ≤ sizeLine := by
      rw [List.length_map, hperm.length_eq]
      omega
    refine wpAny_pure ⟨_, rfl, .ref h'.objs.size, upd H h'.objs.size (.lst (ys.map V.ref)), I1.laid (t' := tk) (fun b u e => ?_) (Nat.le_refl _)
      (show ObjOk X.prog X.w _ _ _ (.lst (ys.map V.ref)) from ⟨hz, out, e', by rw [hys]; exact vals_refs ys, he'⟩), rfl, q bs ys _ hK hperm hsort (I1.hok.fresh (Nat.le_refl _))⟩
    have hbb : b < h'.objs.size := Heap.lt_size e
    rw [PyProof.Rows.sortedHeap_old (Nat.ne_of_lt hbb) (by rw [size_push']; exact Nat.lt_succ_of_lt hbb)]
    exact Heap.get?_push_of_some _ e
end
def intsE : List EV → Option (List Int)
  | [] => some []
  | x :: r => match x, intsE r with
    | .int i, some l => some (i :: l)
    | _, _ => none
def pairsE : List EV → Option (List (Int × Int))
  | [] => some []
  | x :: r => match x, pairsE r with
    | .tup [.int i, .int j], some l => some ((i, j) :: l)
    | _, _ => none
def pairE (p : Int × Int) : EV := .tup [.int p.1, .int p.2]
theorem intsE_map : ∀ (l : List Int), intsE (l.map EV.int) = some l
  | [] => rfl
  | x :: l => by simp only [List.map_cons, intsE, intsE_map l]
theorem intsE_eq : ∀ {xs : List EV} {l : List Int}, intsE xs = some l → xs = l.map EV.int
  | [], l, h => by cases h; rfl
  | x :: r, l, h => by
    unfold intsE at h
    split at h
    · rename_i i m e
      cases h
      rw [intsE_eq e]
      rfl
    · cases h
theorem pairsE_map : ∀ (l : List (Int × Int)), pairsE (l.map pairE) = some l
  | [] => rfl
  | x :: l => by
    have ih := pairsE_map l
    simp only [List.map_cons, pairE, pairsE] at ih ⊢
    rw [ih]
theorem pairsE_eq : ∀ {xs : List EV} {l : List (Int × Int)}, pairsE xs = some l → xs = l.map pairE
  | [], l, h => by cases h; rfl
  | x :: r, l, h => by
    unfold pairsE at h
    split at h
    · rename_i i j m e
      cases h
      rw [pairsE_eq e]
      rfl
    · cases h
def fSortI : DL := fun xs h => match xs with
  | [.ref n] => match lstAt h n with
    | some ys => match intsE ys with
      | some l => .ok (.ref h.length) (h ++ [.lst ((isort l).map EV.int)])
      | none => .no
    | none => .no
  | _ => .no
def fSortT : DL := fun xs h => match xs with
  | [.ref n] => match dicAt h n with
    | some (true, kvs) => match pairsE (kvs.map (·.1)) with
      | some l => .ok (.ref h.length) (h ++ [.lst ((psort l).map pairE)])
      | none => .no
    | _ => .no
  | _ => .no
def fSortD : DL := fun xs h => match xs with
  | [.ref n] => match dicAt h n with
    | some (false, kvs) => match intsE (kvs.map (·.1)) with
      | some l => if l.length < 64 then .ok (.ref h.length) (h ++ [.lst ((isort l).map EV.int)]) else .no
      | none => .no
    | _ => .no
  | _ => .no
theorem KR.keys {κ : Type} {f : EV → Option κ} {R : EV → V → Prop} : ∀ {ps : List (EV × EV)} {l : List (κ × V)}, KR f R ps l → ps.map (fun p => f p.1) = l.map fun p => some p.1
  | [], _, h => by rw [h]; rfl
  | p :: ps, _, ⟨k, v, r, e, h1, h2, h3⟩ => by
    subst e
    rw [List.map_cons, List.map_cons, KR.keys h3, h1]
theorem keyOf_ints : ∀ {xs : List EV} {l : List Int} {ks : List Key}, intsE xs = some l → xs.map keyOf = ks.map some → ks = l.map Sum.inl
  | [], l, ks, h, e => by
    cases h
    simpa using e.symm
  | x :: r, l, ks, h, e => by
    unfold intsE at h
    split at h
    · rename_i i m q
      cases h
      cases ks with
      | nil => simp at e
      | cons k ks =>
        simp only [List.map_cons, List.cons.injEq] at e
        have := e.1
        unfold keyOf at this
        cases this
        rw [keyOf_ints q e.2]
        rfl
    · cases h
theorem tkeyOf_pairs : ∀ {xs : List EV} {l : List (Int × Int)} {ks : List (List Key)}, pairsE xs = some l → xs.map tkeyOf = ks.map some → ks = l.map fun p => [Sum.inl p.1, Sum.inl p.2]
  | [], l, ks, h, e => by
    cases h
    simpa using e.symm
  | x :: r, l, ks, h, e => by
    unfold pairsE at h
    split at h
    · rename_i i j m q
      cases h
      cases ks with
      | nil => simp at e
      | cons k ks =>
        simp only [List.map_cons, List.cons.injEq] at e
        have h1 := e.1
        simp only [tkeyOf, keysOf, keyOf, Option.some.injEq] at h1
        rw [tkeyOf_pairs q e.2, ← h1]
        rfl
    · cases h
theorem pairs_at {K : Fg} {ρ : Rho} {H : Hp} : ∀ {kvs : List (List Key × V)} {l : List (Int × Int)} {bs : List Addr}, (kvs.map (·.1)) = l.map (fun p => [Sum.inl p.1, Sum.inl p.2]) → IsKeys H kvs bs → bs.map (pairAt H) = l ∧ ∀ b ∈ bs, VR K ρ H (pairE (pairAt H b)) (.ref b)
  | _, l, _, h, .nil => by
    have : l = [] := by simpa using h.symm
    subst this
    exact ⟨rfl, fun b hb => absurd hb (by simp)⟩
  | _, [], _, h, .cons hb hr => by simp at h
  | _, p :: l, _, h, .cons (b := b) hb hr => by
    simp only [List.map_cons, List.cons.injEq] at h
    obtain ⟨h1, h2⟩ := pairs_at (K := K) (ρ := ρ) h.2 hr
    rw [h.1] at hb
    have hb' : H b = some (.tup [.int p.1, .int p.2]) := hb
    have e : pairAt H b = p := by
      unfold pairAt
      rw [hb']
    refine ⟨by rw [List.map_cons, h1, e], fun c hc => ?_⟩
    rcases List.mem_cons.mp hc with q | q
    · subst q
      rw [e]
      exact vr_tup.mpr ⟨c, _, rfl, hb', vrs_cons.mpr ⟨_, _, rfl, vr_int.mpr rfl, vrs_cons.mpr ⟨_, _, rfl, vr_int.mpr rfl, vrs_nil.mpr rfl⟩⟩⟩
    · exact h2 c q
theorem vrs_pairs {K : Fg} {ρ : Rho} {H : Hp} : ∀ {ys : List Addr}, (∀ b ∈ ys, VR K ρ H (pairE (pairAt H b)) (.ref b)) → VRs K ρ H ((ys.map (pairAt H)).map pairE) (ys.map V.ref)
  | [], _ => vrs_nil.mpr rfl
  | y :: ys, h => vrs_cons.mpr ⟨_, _, rfl, h y List.mem_cons_self, vrs_pairs fun b hb => h b (List.mem_cons_of_mem _ hb)⟩
section
variable {X : Cx} {ct : Nat → Addr × List Str} {E : XK} {G : Gx}
theorem c_sortI : Cld X ct E (.builtin "sorted") fSortI := ⟨_, cr_sortedI, fun ρ H eh xs as Q hr hx h => by
  unfold fSortI at h
  split at h
  · rename_i n
    split at h
    · rename_i ys e1
      split at h
      · rename_i l e2
        obtain ⟨v, rfl, hv⟩ := vrs_one hx
        obtain ⟨a, vs, g1, g2, g3⟩ := lst_of hr e1
        obtain ⟨a', q1, rfl⟩ := vr_ref.mp hv
        rw [g1] at q1; cases q1
        rw [intsE_eq e2] at g3
        rw [VRs.of_ints g3] at g2
        refine ⟨a, l, rfl, g2, fun ns' p hp hs hn => ?_⟩
        rw [isort_eq hp hs]
        exact new_lst hr (VRs.ints _) h p hn
      · exact h.elim
    · exact h.elim
  · exact h.elim⟩
theorem c_sortT (hc : X.calm = true) : Cld X ct E (.builtin "sorted") fSortT := ⟨_, call_sortedDT hc, fun ρ H eh xs as Q hr hx h => by
  unfold fSortT at h
  split at h
  · rename_i n
    split at h
    · rename_i kvs e1
      split at h
      · rename_i l e2
        obtain ⟨v, rfl, hv⟩ := vrs_one hx
        obtain ⟨a, u, g1, g2, g3⟩ := dic_of hr e1
        obtain ⟨a', q1, rfl⟩ := vr_ref.mp hv
        rw [g1] at q1; cases q1
        obtain ⟨m, rfl, hk⟩ := g3
        have hkeys : m.map (·.1) = l.map fun p => [Sum.inl p.1, Sum.inl p.2] := by
          refine tkeyOf_pairs e2 ?_
          rw [List.map_map, List.map_map]
          exact hk.keys
        refine ⟨a, m, rfl, g2, fun p hp => ?_, fun bs ys p hK hperm hs hn => ?_⟩
        · have : p.1 ∈ l.map fun p => [Sum.inl p.1, Sum.inl p.2] := by
            rw [← hkeys]
            exact List.mem_map.mpr ⟨p, hp, rfl⟩
          obtain ⟨z, _, hz⟩ := List.mem_map.mp this
          exact ⟨z.1, z.2, hz.symm⟩
        · obtain ⟨k1, k2⟩ := pairs_at (K := X.K) (ρ := ρ) hkeys hK
          have e3 : ys.map (pairAt H) = psort l := by
            refine psort_eq ?_ hs
            rw [← k1]
            exact hperm.map _
          have hv := vrs_pairs (K := X.K) (ρ := ρ) fun b hb => k2 b (hperm.mem_iff.mp hb)
          rw [e3] at hv
          exact new_lst hr hv h p hn
      · exact h.elim
    · exact h.elim
  · exact h.elim⟩
theorem c_sortD (hc : X.calm = true) : Cld X ct E (.builtin "sorted") fSortD := ⟨_, call_sortedDI hc, fun ρ H eh xs as Q hr hx h => by
  unfold fSortD at h
  split at h
  · rename_i n
    split at h
    · rename_i kvs e1
      split at h
      · rename_i l e2
        split at h
        · rename_i hl
          obtain ⟨v, rfl, hv⟩ := vrs_one hx
          obtain ⟨a, u, g1, g2, g3⟩ := dic_of hr e1
          obtain ⟨a', q1, rfl⟩ := vr_ref.mp hv
          rw [g1] at q1; cases q1
          obtain ⟨m, rfl, hk⟩ := g3
          have hkeys : m.map (·.1) = l.map Sum.inl := by
            refine keyOf_ints e2 ?_
            rw [List.map_map, List.map_map]
            exact hk.keys
          refine ⟨a, m, l, rfl, g2, hkeys, hl, fun ys p hp hs hn => ?_⟩
          rw [isort_eq hp hs]
          exact new_lst hr (VRs.ints _) h p hn
        · exact h.elim
      · exact h.elim
    · exact h.elim
  · exact h.elim⟩
abbrev fSorted : DL := dLor fSortI (dLor fSortT fSortD)
theorem c_sorted (hc : X.calm = true) : Cld X ct E (.builtin "sorted") fSorted := c_sortI.or ((c_sortT hc).or (c_sortD hc))
end
end EE
set_option Elab.async false
set_option linter.all false
set_option maxRecDepth 100000
set_option maxHeartbeats 1000000
namespace EE
open PySem PySem.Spec PyProof.Rows L2
section
variable {X : Cx} {pins : List (Addr × Obj)} {σ : L2.St} {H : Hp} {s : Shared} {d : Addr} {o : Obj}
theorem frz_raw {kvs : List (List Key × V)} (I : Inv X pins σ H s) (h : H d = some (.frz o (.dT kvs))) :
    (d == sysModules) = false ∧ ∃ (ent : Array DictEntry) (ep : Nat), DT.Raw s.heap d ent ep ∧ o.data = .dict ent ep ∧ ent.size = kvs.length ∧
      ∀ (i : Nat) (k : List Key) (v : V) (hi : i < ent.size), kvs[i]? = some (k, v) → ∃ q : Addr, ent[i].key = .ref q ∧ H q = some (.tup (k.map kV)) ∧ RelV v ent[i].val := by
  obtain ⟨h0, z, hsys, raw, hpr, o', ent, ep, ho, hx, hdat, hent, hnd⟩ := I.hok d _ h
  rw [h0] at ho
  cases ho
  refine ⟨hsys, ent, ep, ⟨o, h0, hx, hdat⟩, hdat, ?_, fun i k v hi e => ?_⟩
  · rw [size_of_entries hent, Paired.length hpr]
  · obtain ⟨b, b1, b2, b3, b4⟩ := paired_get hpr e
    have q := entry_at hent i
    rw [b1, Array.getElem?_eq_getElem hi] at q
    have e2 := Option.some.inj q
    refine ⟨b.2.1, ?_, b3, ?_⟩
    · rw [e2]
      rfl
    · rw [e2]
      exact b4
end
def ItiT (d : Addr) (o : Obj) (kvs : List (List Key × V)) : It where
  go := fun i H => H d = some (.frz o (.dT kvs)) ∧ i < kvs.length
  yld := fun i H x H' => ∃ (T q : Addr) (k : List Key) (v : V), kvs[i]? = some (k, v) ∧ H q = some (.tup (k.map kV)) ∧ x = .ref T ∧ H T = none ∧ H' = upd H T (.tup [.ref q, v])
  stop := fun i H => H d = some (.frz o (.dT kvs)) ∧ kvs.length ≤ i
theorem turn_itemsT {P : Program} {w : World} {K : Fg} {d : Addr} {o : Obj} {ent : Array DictEntry} {ep : Nat} {kvs : List (List Key × V)} {elts : List Expr} {kk : Nat} {tpos : Pos} (it : Addr) (hod : o.data = .dict ent ep) :
    Turn P w K (.Tuple elts kk tpos) (ItiT d o kvs) [it] it (fun i h => ∃ c1 c2, IsItemIter h it d i kvs.length ep c1 c2) where
  mem := List.mem_singleton.mpr rfl
  obj := fun i h st b hb => by
    obtain ⟨c1, c2, e⟩ := st
    rw [List.mem_singleton.mp hb]
    exact ⟨_, e, fun v z => nomatch z⟩
  keep := fun i h h' st k => let ⟨c1, c2, e⟩ := st; ⟨c1, c2, k it (List.mem_singleton.mpr rfl) _ e⟩
  item := by
    intro X hP hw hK hc i pins s σ H E I hf st hg
    subst hP hw hK
    obtain ⟨g1, g2⟩ := hg
    obtain ⟨hsys, ent', ep', hraw, hdat, hsz, hat⟩ := frz_raw I g1
    obtain ⟨rfl, rfl⟩ := dict_ep hod hdat
    have hi : i < ent'.size := by rw [hsz]; exact g2
    have hkv : kvs[i]? = some (kvs[i].1, kvs[i].2) := List.getElem?_eq_getElem g2
    obtain ⟨q, hq1, hq2, hq3⟩ := hat i _ _ hi hkv
    obtain ⟨c1, c2, hst⟩ := st
    rw [← hsz] at hst
    have hlt : it < s.heap.objs.size := Heap.lt_size hst
    refine DT.nextI hst hraw hi fun h1 k1 k2 k3 k4 => ?_
    refine ⟨_, rfl, wpAny_letOwnedTupleGo_items (s := { s with heap := h1 }) k1 fun h2 j1 sb => ?_⟩
    have hT : h2.get? s.heap.objs.size = some { cls := .type "tuple", data := .seq #[.ref q, ent'[i].val] } := by
      rw [← hq1]
      exact (sb.2 _ (Nat.ne_of_gt hlt)).trans k2
    have new : ObjOk X.prog X.w (upd H s.heap.objs.size (.tup [.ref q, kvs[i].2])) h2 s.heap.objs.size (.tup [.ref q, kvs[i].2]) :=
      ⟨by show 2 ≤ sizeLine; decide, [.ref q, ent'[i].val], .cons rfl (.cons hq3 .nil), ⟨_, hT, rfl, _, rfl⟩⟩
    have I1 : Inv X pins σ (upd H s.heap.objs.size (.tup [.ref q, kvs[i].2])) { s with heap := h2 } :=
      I.turnedNew (t' := s.toks) (ch := [it]) (fun b ob hb e => (sb.2 b (fun z => hb (List.mem_singleton.mpr z))).trans (k4 b ob (fun z => hb (List.mem_singleton.mpr z)) e)) hf (Nat.le_refl _) new
    refine ⟨.ref s.heap.objs.size, _, I1, rfl, ⟨_, q, _, _, hkv, hq2, rfl, I.hok.fresh (Nat.le_refl _), rfl⟩, ⟨ent'[i].key, ent'[i].val, ?_⟩, fun b hb => ?_⟩
    · rw [← hsz]
      exact j1
    · rw [List.mem_singleton.mp hb, upd_ne (Nat.ne_of_lt hlt)]
      exact (hf it (List.mem_singleton.mpr rfl)).1
  done := by
    intro X hP hw hK hc i pins s σ H E I hf st hg
    subst hP hw hK
    obtain ⟨g1, g2⟩ := hg
    obtain ⟨f0, f1, f2, f3, f4, f5⟩ := hf it (List.mem_singleton.mpr rfl)
    obtain ⟨hsys, ent', ep', hraw, hdat, hsz, hat⟩ := frz_raw I g1
    obtain ⟨rfl, rfl⟩ := dict_ep hod hdat
    obtain ⟨c1, c2, hst⟩ := st
    rw [← hsz] at hst
    exact DT.endI (I.ok.hd hc) hst hraw (by rw [hsz]; exact g2) fun h' eb => ⟨rfl, I.turned (t' := s.toks) (fun b ob hb e => eb b ob hb e) f0 f1 f3 f4 f5⟩
  self := fun A i s Q E st h => let ⟨_, _, e⟩ := st; PySem.W.kcp_self e h
def iItemsT (td : TE) : TI := fun σ H R => td σ H fun x H1 => ∃ d o kvs, x = .ref d ∧ H1 d = some (.frz o (.dT kvs)) ∧ R (ItiT d o kvs) H1
section
variable {X : Cx} {e : Expr} {td : TE} {apos cpos : Pos}
theorem pi_itemsT {elts : List Expr} {kk : Nat} {tpos : Pos} (he : PE X e td) (hbase : attributeBase e "items" X.env (eval e X.env) = eval e X.env := by rfl) (hline : (apos.endLine == cpos.line) = true := by rfl) :
    PI X (.Tuple elts kk tpos) (.Call (.Attribute e "items" apos) [] [] cpos) (iItemsT td) := by
  refine ⟨fun pins s σ H R I h => wpAny_Call_method (T := "dict") (id := "dict.items") hbase rfl hline PySem.F.plainAttrs_dict PySem.F.slot_dict_items PySem.F.type_dict_items (thn (he.run pins s σ H _ I h) fun u s1 ⟨x, H1, I1, rx, d, o, kvs, ex, hd, q⟩ => ?_)⟩
  subst ex
  cases (show u = Value.ref d from rx)
  obtain ⟨hsys, ent, ep, hraw, hdat, hsz, hat⟩ := frz_raw I1 hd
  refine ⟨hraw.typeIs, fun b q => ?_, ?_⟩
  · cases q
    obtain ⟨ob, h1, h2, _⟩ := hraw
    exact ⟨ob, h1, h2.2.1⟩
  have I2 : Inv X pins σ H1 { s1 with heap := s1.heap.push { cls := .type "dict_items", data := .fields #[.ref d] } } := I1.kept (t' := s1.toks) fun b ob q => Heap.get?_push_of_some _ q
  have fin : wpAny (model X.prog X.w) X.A (pyIter (.ref s1.heap.objs.size)) (PIE X pins σ (.Tuple elts kk tpos) R) X.xe { s1 with heap := s1.heap.push { cls := .type "dict_items", data := .fields #[.ref d] } } := by
    refine DT.iterI (d := d) ⟨_, Heap.get?_push_size _ rfl, rfl, rfl⟩ (hraw.push _) (pi_one (tk := s1.toks) I2 _ (turn_itemsT (kvs := kvs) _ hdat) ⟨.none, .none, ?_⟩ q)
    rw [← hsz]
    exact Heap.get?_push_size _ rfl
  show wpAny _ _ (callWith cpos (.builtin "dict.items") [.ref d] [] []) _ X.xe s1
  exact method_meetsIn PySem.F.slot_dict_items PySem.F.entry_dict_items rfl (PySem.evalArgs_none ⟨rfl, hraw.typeIs, PySem.F.args_dict_items_1 _, _, DT.meetsItems (es := ent) (ep := ep) hsys, hraw, fin⟩)
end
def dItIT (a : DE) : DI := fun es h => (a es h).bind fun x h1 => match x with
  | .ref n => match lkAt h1 n with
    | some (true, kvs) => .ok ⟨none, kvs.map (fun p => .tup [p.1, p.2]), fun _ x => x⟩ h1
    | _ => .no
  | _ => .no
section
variable {X : Cx} {ct : Nat → Addr × List Str} {E : XK} {G : Gx} {a : Expr} {da : DE}
theorem snd_itIT {tl : TE} (ha : SndE G E tl da) : SndI G E (iItemsT tl) (dItIT da) := fun ρ σ H es eh Q rel h => by
  refine ha.bind rel h fun ρ1 H1 x eh1 v e1 rel1 v1 h1 => ?_
  split at h1
  · rename_i n
    split at h1
    · rename_i kvs e2
      obtain ⟨p, f, u, g1, g2, g3⟩ := lk_of rel1.hr e2
      obtain ⟨p', q1, rfl⟩ := vr_ref.mp v1
      rw [adr_of g1] at q1; cases q1
      obtain ⟨l, rfl, hk⟩ := g3
      refine ⟨p, f, l, rfl, g2, h1 ρ1 H1 _ (Ext.refl _ _ _) rel1.hr fun ρ' H' eh' xs e hr hc => ?_⟩
      cases hc
      have hz := e.frz _ _ _ g2
      refine ⟨fun i x hx => ?_, fun i hx => ?_⟩
      · rw [List.getElem?_map] at hx
        obtain ⟨p0, hp, rfl⟩ := Option.map_eq_some_iff.mp hx
        obtain ⟨k, w, k1, k2, k3⟩ := hk.at hp
        refine ⟨⟨hz, (List.getElem?_eq_some_iff.mp k1).1⟩, fun y H3 hy => ?_⟩
        obtain ⟨T, b, k', w', k1', hb, rfl, hT, rfl⟩ := hy
        rw [k1] at k1'
        cases k1'
        have e3 : Ext G.K ρ' ρ' H' (upd H' T (.tup [.ref b, w])) := Ext.side _ hT
        refine ⟨e3, hr.side _ hT, vr_tup.mpr ⟨T, _, rfl, upd_same, vrs_cons.mpr ⟨_, _, rfl, ?_, VRs.one ?_⟩⟩⟩
        · exact VR.mono e3 _ _ (tkeyOf_vr k2 hb)
        · exact VR.mono (e.trans e3) _ _ k3
      · rw [List.getElem?_map, Option.map_eq_none_iff, List.getElem?_eq_none_iff] at hx
        exact ⟨hz, by rw [← hk.len]; exact hx⟩
    · exact h1.elim
  · exact h1.elim
theorem xi_itemsT {elts : List Expr} {kk : Nat} {tpos apos cpos : Pos} (h : PEd X ct E a da) (hbase : attributeBase a "items" X.env (eval a X.env) = eval a X.env := by rfl) (hline : (apos.endLine == cpos.line) = true := by rfl) :
    PId X ct E (.Tuple elts kk tpos) (.Call (.Attribute a "items" apos) [] [] cpos) (dItIT da) := by
  obtain ⟨t, h1, h2⟩ := h
  exact ⟨_, pi_itemsT h1 hbase hline, snd_itIT h2⟩
end
end EE
set_option Elab.async false
set_option linter.all false
set_option maxRecDepth 100000
set_option maxHeartbeats 1000000
namespace EE
open PySem PySem.Spec PyProof.Rows L2
abbrev InBlk (X : Cx) (scope : Scope) (R : Cx → Prop) : Prop := ∀ (s : Shared) (H : Hp) (C : Addr) (cl : List (Str × Addr)) (fs : List Addr), R (X.blk s H scope (compEnvC scope cl C X.env) fs)
theorem obj_empty {o0 : HO} (ho0 : o0 = .dK [] ∨ o0 = .dT []) {P : Program} {w : World} {H : Hp} (h : Heap) (hb : sysModules < h.objs.size) : ObjOk P w H (h.push { cls := .type "dict", data := .dict #[] }) h.objs.size o0 := by
  rcases ho0 with rfl | rfl
  · exact dk_empty h hb
  · exact dt_empty h hb
section
variable {X : Cx}
theorem d_dictSet2 {pins : List (Addr × Obj)} {σ : L2.St} {H H' : Hp} {s : Shared} {E : Value → Shared → Prop} {D : Addr} {y v : V} {u r : Value} {Q : Unit → Shared → Prop} (hu : X.A.units + 1 < cLine) (I : Inv X pins σ H s) (g : DPut H D y v H')
    (ry : RelV y u) (rv : RelV v r) (h : ∀ s', Inv X pins σ H' s' → Q () s') : wpAny (model X.prog X.w) X.A (dictSet D u r) Q E s := by
  rcases g with ⟨kvs, k, e, rfl, l, rfl⟩ | ⟨kvs, k, b, e, rfl, eb, l, rfl⟩
  · exact d_dictSet I e l ry rv h
  · cases (show u = Value.ref b from ry)
    obtain ⟨z, hd, xs, rel, dd⟩ := dt_of I.hok e
    have c1 : xs.length ≤ sizeLine := by rw [← Paired.length rel]; exact z
    have c2 := length_putK kvs k v
    refine wpAny_dictSet_heap (hsz := c1) (show X.A.units < cLine by omega) (key_of I.hok eb) dd fun h' dd' hs => h _ ?_
    obtain ⟨q, es, ep, j1, j2, j3, j4, _, j6⟩ := dd'
    refine d_write I (by rw [e]; exact True.intro) hs ⟨q, j1⟩ ⟨by omega, hd, _, (rel.put k eb rv).keeps fun c ys ec => ?_, q, es, ep, j1, j2, j3, j4, j6⟩
    have n : c ≠ D := ne_of ec e fun z => nomatch z
    rw [upd_ne n]
    exact ec
def tDcG (o0 : HO) (wi : TI) (g : TG) (tt : TT) (tk tv : TE) (vs : List Nat) : TE := fun σ H Q => wi σ H fun J H1 => ∀ D, H1 D = none → ∃ W : Nat → Nat → Hp → Prop, (∃ m, W 0 m (upd H1 D o0)) ∧ ∀ i m H, W i m H →
  (J.stop i H ∧ Q (.ref D) H) ∨ (J.go i H ∧ ∃ Nxt : Hp → Prop, (∀ H', Nxt H' → ∃ m', m' < m ∧ W (i + 1) m' H') ∧ ∀ x H', J.yld i H x H' → g x (wipe σ vs) H' fun σ2 H2 => wipe σ2 vs = wipe σ vs ∧ tt σ2 H2 fun b H3 =>
    if b = true then tk σ2 H3 fun y H4 => tv σ2 H4 fun z H5 => ∃ H6, DPut H5 D y z H6 ∧ Nxt H6 else Nxt H3)
theorem dict_comp_any {o0 : HO} (ho0 : o0 = .dK [] ∨ o0 = .dT []) (hu : X.A.units + 1 < cLine) {pins : List (Addr × Obj)} {s : Shared} {σ : L2.St} {H : Hp} {Q : VK} {kx vx tg iter : Expr} {ifs : List Expr} {scope : Scope} {own : List (Str × Nat)} {pos posq : Pos} {wi : TI} {g : TG} {tt : TT} {tk tv : TE} {use : Option (Value → Sem Unit)} {Qf : Value → Shared → Prop}
    (hc : X.calm = true) (hN : X.N.Nodup) (I : L2.Inv X pins σ H s) (hi : PI X tg iter wi) (ok : BlkOk X.N X.env.scope scope own)
    (hg : InBlk X scope fun Y => PG Y tg g) (ht : InBlk X scope fun Y => PTs Y ifs tt)
    (hk : InBlk X scope fun Y => PE Y kx tk)
    (he : InBlk X scope fun Y => PE Y vx tv) (hs : ∀ x, foldedSetIterable iter X.env x = pure x)
    (h : tDcG o0 wi g tt tk tv (own.map (·.2)) σ H Q)
    (hRR : ∀ D C s' m H', L2.Inv X pins σ H' s' → Q (.ref D) H' → s'.heap.Ns C m → FpOk X pins H' C → compPost (model X.prog X.w) X.A X.xe use Qf (.ref D) C (.ok .next) s') :
    wpAny (model X.prog X.w) X.A (comprehension (.DictComp kx vx [⟨tg, iter, ifs, 0⟩] scope pos) scope X.env posq newDict false (eval iter X.env) use) Qf X.xe s := by
  have frees : ∀ y ∈ scope.names, y.2 = .free → ∃ c, X.env.cells.lookup y.1 = some c := fun y hy e => by
    exact (ok.free y hy e).elim (fun k => I.ok.has _ (.inl k)) fun k => I.ok.has _ (.inr k)
  refine wpAny_comprehension_free (use := use) rfl hs (closure_ok frees) ok.kind (fun y hy e => by rw [ok.uniq y hy, e])
    (thn (hi.run pins s σ H _ I h) fun xv t1 hx => thn hx fun itv t2 h2 => ?_)
  obtain ⟨it, fps, tn, J, U2, e, J2, T, z2, w2, q⟩ := h2
  subst e
  refine wpAny_newObj_type (newEnv_comp ?_)
  generalize eD : t2.heap.objs.size = D
  have nD : U2 D = none := J2.hok.fresh (Nat.le_of_eq eD)
  obtain ⟨W, ⟨m0, w0⟩, turn⟩ := q D nD
  -- the new list
  generalize e3 : ({ t2 with heap := t2.heap.push { cls := .type "dict", data := .dict #[] } } : Shared) = t3
  have J3 : L2.Inv X pins σ (upd U2 D o0) t3 := by
    rw [← e3]
    refine J2.laid (t' := t2.toks) (fun b o e => Heap.get?_push_of_some _ e) (Nat.le_of_eq eD) ?_
    rw [← eD]
    exact obj_empty ho0 t2.heap J2.big
  have h3 : t3.heap = t2.heap.push { cls := .type "dict", data := .dict #[] } := by rw [← e3]
  have small : ∀ b ∈ fps, b < t2.heap.objs.size := fun b hb => by
    obtain ⟨o, e, _⟩ := T.obj _ _ z2 b hb
    exact Heap.lt_size e
  have w3 : ∀ b ∈ fps, FpOk X pins (upd U2 D o0) b ∧ b < t3.heap.objs.size := fun b hb => by
    have hlt := small b hb
    refine ⟨⟨?_, (w2 b hb).2⟩, by rw [h3, Heap.size_push]; exact Nat.lt_succ_of_lt hlt⟩
    rw [upd_ne (by rw [← eD]; exact Nat.ne_of_lt hlt)]
    exact (w2 b hb).1
  have z3 : tn 0 t3.heap := T.keep _ _ _ z2 fun b _ o e => by rw [h3]; exact Heap.get?_push_of_some _ e
  have J4 := block_start J3 ok hN w3
  have qg := hg t3 (upd U2 D o0) t3.heap.objs.size (cellsFrom (t3.heap.objs.size + 1) scope.names (cloFrom X.env.cells scope.names [])) fps
  have qt := ht t3 (upd U2 D o0) t3.heap.objs.size (cellsFrom (t3.heap.objs.size + 1) scope.names (cloFrom X.env.cells scope.names [])) fps
  have qk := hk t3 (upd U2 D o0) t3.heap.objs.size (cellsFrom (t3.heap.objs.size + 1) scope.names (cloFrom X.env.cells scope.names [])) fps
  have qe := he t3 (upd U2 D o0) t3.heap.objs.size (cellsFrom (t3.heap.objs.size + 1) scope.names (cloFrom X.env.cells scope.names [])) fps
  show codeAny _ _ (.compStart (.DictComp kx vx [⟨tg, iter, ifs, 0⟩] scope pos) 0 (.ref it) (.ref D) (compEnvC scope (cellsFrom (t3.heap.objs.size + 1) scope.names (cloFrom X.env.cells scope.names [])) t3.heap.objs.size X.env)) (compPost (model X.prog X.w) X.A X.xe use Qf (.ref D) t3.heap.objs.size) { t3 with heap := pushCells (t3.heap.push { cls := .type "dict", data := .dict #[] }) scope.names }
  have nfp : ∀ b ∈ fps, (upd U2 D o0) b = none := fun b hb => (w3 b hb).1.1
  generalize hce : compEnvC scope (cellsFrom (t3.heap.objs.size + 1) scope.names (cloFrom X.env.cells scope.names [])) t3.heap.objs.size X.env = cenv at J4 qg qt qk qe ⊢
  have cL : cenv.locals = t3.heap.objs.size := by subst hce; rfl
  generalize hH3 : upd U2 D o0 = U3 at J3 J4 qg qt qk qe w0 nfp w3
  generalize e4 : ({ t3 with heap := pushCells (t3.heap.push { cls := .type "dict", data := .dict #[] }) scope.names } : Shared) = t4 at J4 ⊢
  have z4 : tn 0 t4.heap := T.keep _ _ _ z3 fun b _ o e => by rw [← e4]; exact pushCells_keeps _ _ _ _ (Heap.get?_push_of_some _ e)
  have stays : ∀ {σ' : L2.St} {H' : Hp} {s' : Shared}, L2.Inv (X.blk t3 U3 scope cenv fps) [] σ' H' s' → (∀ b ∈ fps, H' b = none) → ∀ b ∈ fps, FpOk (X.blk t3 U3 scope cenv fps) [] H' b := fun {σ' H' s'} Jq hn b hb =>
    ⟨hn b hb, (Jq.ok.exf b hb).1, Jq.ok.exfs b hb, .inl hb, fun x c e => (Jq.ok.exf b hb).2 x c e, fun p hp => absurd (show p ∈ ([] : List (Addr × Obj)) ++ [] from hp) (by simp)⟩
  have looped : codeAny (model X.prog X.w) X.A (.compLoop (.DictComp kx vx [⟨tg, iter, ifs, 0⟩] scope pos) 0 (.ref it) (.ref D) cenv) (compPost (model X.prog X.w) X.A X.xe use Qf (.ref D) t3.heap.objs.size) t4 := by
    refine compLoop_anyD (fun n s' => ∃ i H', L2.Inv (X.blk t3 U3 scope cenv fps) [] (wipe σ (own.map (·.2))) H' s' ∧ tn i s'.heap ∧ (∀ b ∈ fps, H' b = none) ∧ W i n H') ?_ m0 ⟨0, U3, J4, z4, nfp, w0⟩
    rintro n t5 ⟨i, U5, J5, z5, n5, w5⟩
    rcases turn i n U5 w5 with ⟨stops, qq⟩ | ⟨goes, Nxt, hNxt, step⟩
    · have td := T.done (X.blk t3 U3 scope cenv fps) rfl rfl rfl hc i [] t5 _ U5 (fun _ _ => False) J5 (stays J5 n5) z5 stops
      refine thnF td fun r t6 ⟨hr, J6⟩ => ?_
      subst hr
      -- back in the def's context
      have J7 : L2.Inv X pins σ U5 t6 := J3.call' (ch := fps) J6.os J6.base J6.hok J6.bare fun b hb => ⟨(w3 b hb).1.2.2.2.1, (w3 b hb).1.2.1, (w3 b hb).1.2.2.2.2.1, (w3 b hb).1.2.2.2.2.2⟩
      have nC : U5 t3.heap.objs.size = none := by
        have z : U5 cenv.locals = none := J6.free
        rw [cL] at z
        exact z
      obtain ⟨m, hn, _⟩ := J6.loc
      have hn : t6.heap.Ns cenv.locals m := hn
      rw [cL] at hn
      exact hRR D t3.heap.objs.size t6 m U5 J7 qq hn (J3.fpOk (Nat.le_refl _) nC)
    · have ti := T.item (X.blk t3 U3 scope cenv fps) rfl rfl rfl hc i [] t5 _ U5 (fun _ _ => False) J5 (stays J5 n5) z5 goes
      refine thnF ti fun r t6 ⟨u, hr, h6⟩ => ?_
      subst hr
      refine thnF h6 fun _ t7 ⟨x, U7, J7, r7, y7, z7, n7⟩ => ?_
      have J7' := J7.pinned (stays J7 n7) (T.obj _ _ z7)
      refine thnF (qg.run _ t7 _ U7 x u _ J7' r7 (step x U7 y7)) fun _ t8 ⟨σ8, U8, J8, hwp, q8⟩ => ?_
      refine thnF (qt.run _ t8 σ8 U8 _ J8 q8) fun b t9 ⟨U9, J9, qn⟩ => ?_
      -- the turn's end
      have fin : ∀ {s' : Shared} {H' : Hp}, L2.Inv (X.blk t3 U3 scope cenv fps) ([] ++ pinsAt fps t7.heap) σ8 H' s' → Nxt H' → ∃ m, m < n ∧ ∃ i H', L2.Inv (X.blk t3 U3 scope cenv fps) [] (wipe σ (own.map (·.2))) H' s' ∧ tn i s'.heap ∧ (∀ b ∈ fps, H' b = none) ∧ W i m H' := fun {s' H'} Jq nx => by
        obtain ⟨m', hm, w'⟩ := hNxt H' nx
        have pin' : ∀ b ∈ fps, ∀ o, t7.heap.get? b = some o → s'.heap.get? b = some o ∧ H' b = none := fun b hb o e =>
          let z := Jq.pin (b, o) (List.mem_append_right _ (List.mem_append_right _ (mem_pinsAt hb e)))
          ⟨z.1, z.2.1⟩
        have hl : (wipe σ (own.map (·.2))).length = σ8.length := by rw [← hwp, wipe_length]
        refine ⟨m', hm, i + 1, H', (Jq.unpinned (pins := [])).weak hl (fun j v e => ?_), T.keep _ _ _ z7 fun b hb o e => (pin' b hb o e).1, fun b hb => ?_, w'⟩
        · rw [← hwp] at e
          exact (wipe_some e).1
        · obtain ⟨o, e, _⟩ := T.obj _ _ z7 b hb
          exact (pin' b hb o e).2
      cases b with
      | false =>
        simp only [Bool.false_eq_true, if_false] at qn ⊢
        exact fin J9 qn
      | true =>
        simp only [if_true] at qn ⊢
        refine thnF (qk.run _ t9 σ8 U9 _ J9 qn) fun z s10 ⟨yk, H10, I10, r10, q10⟩ => ?_
        refine thnF (qe.run _ s10 σ8 H10 _ I10 q10) fun z2 s11 ⟨yv, H11, I11, r11, H12, put, nx⟩ => ?_
        exact d_dictSet2 (X := X.blk t3 U3 scope cenv fps) hu I11 put r10 r11 fun s12 I12 => fin I12 nx
  exact codeAny_compStart_dict looped (T.self X.A 0 _ _ _ z4 looped)
theorem pe_dcG {o0 : HO} (ho0 : o0 = .dK [] ∨ o0 = .dT []) (hu : X.A.units + 1 < cLine) {kx vx tg iter : Expr} {ifs : List Expr} {scope : Scope} {own : List (Str × Nat)} {pos : Pos} {wi : TI} {g : TG} {tt : TT} {tk tv : TE} (hc : X.calm = true) (hN : X.N.Nodup) (hi : PI X tg iter wi) (ok : BlkOk X.N X.env.scope scope own)
    (hg : InBlk X scope fun Y => PG Y tg g) (ht : InBlk X scope fun Y => PTs Y ifs tt)
    (hk : InBlk X scope fun Y => PE Y kx tk)
    (hv : InBlk X scope fun Y => PE Y vx tv) (hs : ∀ x, foldedSetIterable iter X.env x = pure x := by intro _; rfl) :
    PE X (.DictComp kx vx [⟨tg, iter, ifs, 0⟩] scope pos) (tDcG o0 wi g tt tk tv (own.map (·.2))) := by
  refine ⟨fun pins s σ H Q I h => ?_⟩
  rw [arm_eval_DictComp]
  refine dict_comp_any ho0 hu hc hN I hi ok hg ht hk hv hs h fun D C s' m H' Jq q hn f => ⟨m, hn, fun h'' sb => ?_⟩
  exact ⟨.ref D, H', Jq.turned (t' := s'.toks) (fun b o hb e => (sb.2 b hb).trans e) f.1 f.2.1 f.2.2.2.1 f.2.2.2.2.1 f.2.2.2.2.2, rfl, q⟩
end
end EE
set_option Elab.async false
set_option linter.all false
set_option maxRecDepth 100000
set_option maxHeartbeats 1000000
namespace EE
open PySem PySem.Spec PyProof.Rows L2
def dcGo (kd : Bool) (it : Wlk) (g : DG) (t : DT) (k e : DE) (vs : List Nat) : Nat → Nat → List (EV × EV) → ES → EH → Res (List (EV × EV))
  | 0, _, _, _, _ => .no
  | m + 1, i, acc, es, h => match it.cur h with
    | none => .no
    | some xs => match xs[i]? with
      | none => .ok acc h
      | some x => (g (it.tl i x) (wip es vs) h).bind fun es1 h1 => (t es1 h1).bind fun b h2 =>
        if b = true then (k es1 h2).bind fun y h3 => (e es1 h3).bind fun z h4 => match dputE kd acc y z with
          | some acc' => if acc.length < 50000 then dcGo kd it g t k e vs m (i + 1) acc' es h4 else .no
          | none => .no
        else dcGo kd it g t k e vs m (i + 1) acc es h2
def dDc (kd : Bool) (di : DI) (g : DG) (t : DT) (k e : DE) (vs : List Nat) : DE := fun es h => (di es h).bind fun it h1 => match it.cur h1 with
  | none => .no
  | some xs => (dcGo kd it g t k e vs (xs.length + 1) 0 [] es h1).bind fun ys h2 => .ok (.ref h2.length) (h2 ++ [.dic kd ys])
def o0 : Bool → HO
  | false => .dK []
  | true => .dT []
theorem o0_ok : ∀ kd, o0 kd = .dK [] ∨ o0 kd = .dT []
  | false => .inl rfl
  | true => .inr rfl
theorem o0_dr {R : EV → V → Prop} : ∀ kd, DR R kd [] (o0 kd)
  | false => ⟨[], rfl, rfl⟩
  | true => ⟨[], rfl, rfl⟩
section
variable {G : Gx} {E : XK}
theorem put_raw {ρ : Rho} {H : Hp} {D : Addr} {u : HO} {kd : Bool} {kvs kvs' : List (EV × EV)} {x v : EV} {y w : V} (hD : H D = some u) (hd : DR (VR G.K ρ H) kd kvs u) (hp : dputE kd kvs x v = some kvs') (hl : kvs.length < 50000) (hx : VR G.K ρ H x y) (hv : VR G.K ρ H v w) :
    ∃ u', DPut H D y w (upd H D u') ∧ DR (VR G.K ρ H) kd kvs' u' := by
  have hz : kvs.length < sizeLine := Nat.lt_of_lt_of_le hl (by decide)
  cases kd with
  | false =>
    obtain ⟨l, rfl, hk⟩ := hd
    obtain ⟨k, e1, e2⟩ := Option.map_eq_some_iff.mp hp
    subst e2
    exact ⟨_, .inl ⟨l, k, hD, keyOf_eq e1 hx, by rw [← hk.len]; exact hz, rfl⟩, _, rfl, hk.put e1 hv⟩
  | true =>
    obtain ⟨l, rfl, hk⟩ := hd
    obtain ⟨k, e1, e2⟩ := Option.map_eq_some_iff.mp hp
    subst e2
    obtain ⟨b, rfl, hb⟩ := tkeyOf_eq e1 hx
    exact ⟨_, .inr ⟨l, k, b, hD, rfl, hb, by rw [← hk.len]; exact hz, rfl⟩, _, rfl, hk.put e1 hv⟩
theorem ext0_upd2 {K : Fg} {ρ : Rho} {H : Hp} {p : Addr} {u0 u : HO} (h : H p = some u0) (h1 : ∀ xs, u0 ≠ .tup xs) (h2 : ∀ o v, u0 ≠ .frz o v) (h3 : NoTb u0) : Ext0 K ρ ρ H (upd H p u) where
  pre := ⟨[], by simp⟩
  xd := fun a ys q => by
    rw [upd_ne (fun z => by subst z; rw [h] at q; cases q; exact h3.2.2 _ rfl)]
    exact q
  tup := fun a ys q => by
    rw [upd_ne (fun z => by subst z; rw [h] at q; cases q; exact h1 _ rfl)]
    exact q
  frz := fun a o v q => by
    rw [upd_ne (fun z => by subst z; rw [h] at q; cases q; exact h2 _ _ rfl)]
    exact q
theorem snd_dc {kd : Bool} {wi : TI} {g : TG} {tt : TT} {tk te : TE} {vs : List Nat} {di : DI} {dg : DG} {dt : DT} {dk de : DE} (hi : SndI G E wi di) (hg : SndG G E g dg) (ho : OnlyIn g vs) (ht : SndT G E tt dt) (hk : SndE G E tk dk) (he : SndE G E te de) :
    SndE G E (tDcG (o0 kd) wi g tt tk te vs) (dDc kd di dg dt dk de vs) := fun ρ σ H es eh Q rel h => by
  refine hi.bind rel h fun ρ1 H1 it eh1 J e1 rel1 jr h1 => ?_
  split at h1
  · exact h1.elim
  · rename_i xs0 _
    intro Dl hD
    let St := fun (m i : Nat) (H : Hp) => ∃ ρ' eh acc us, Ext G.K ρ1 ρ' H1 H ∧ HR G ρ' H eh ∧ (true, Dl) ∉ ρ' ∧ H Dl = some us ∧ DR (VR G.K ρ' H) kd acc us ∧
      wr G (VR G.K) ρ1 H1 ((dcGo kd it dg dt dk de vs m i acc es eh).bind fun ys h2 => .ok (.ref h2.length) (h2 ++ [.dic kd ys])) Q E
    refine ⟨fun i m H => St m i H, ⟨_, ρ1, eh1, [], o0 kd, Ext.side _ hD, rel1.hr.side _ hD, rel1.hr.fresh hD, upd_same, o0_dr kd, h1⟩, ?_⟩
    rintro i m H' ⟨ρ', eh', acc, us, e', hr', hn, hDl, hacc, hw⟩
    cases m with
    | zero => exact hw.elim
    | succ m =>
      unfold dcGo at hw
      split at hw
      · exact hw.elim
      · rename_i xs hxs
        obtain ⟨j1, j2⟩ := jr ρ' H' eh' xs e' hr' hxs
        split at hw
        · rename_i hnone
          refine .inl ⟨j2 i hnone, ?_⟩
          have e5 := e'.push hD
          have e0 : Ext0 G.K ρ' (ρ' ++ [(true, Dl)]) H' H' := ⟨⟨[(true, Dl)], rfl⟩, fun _ _ q => q, fun _ _ _ q => q, fun _ _ q => q⟩
          exact hw (ρ' ++ [(true, Dl)]) H' _ e5 (hr'.push (o := .dic kd acc) hn rfl ⟨us, hDl, hacc.mono fun x v => VR.mono0 e0 x v⟩) (vr_ref.mpr ⟨Dl, last_get hr'.len, rfl⟩)
        · rename_i x hx
          obtain ⟨go, yl⟩ := j1 i x hx
          refine .inr ⟨go, fun H2 => St m (i + 1) H2, fun H2 q => ⟨m, Nat.lt_succ_self m, q⟩, fun y H3 hy => ?_⟩
          obtain ⟨e3, hr3, v3⟩ := yl y H3 hy
          have keepD : ∀ {ρa ρb : Rho} {Ha Hb : Hp}, Ext G.K ρa ρb Ha Hb → (true, Dl) ∉ ρa → Ha Dl = some us → (true, Dl) ∉ ρb ∧ Hb Dl = some us := fun e hn h => by
            refine ⟨fun hm => ?_, e.rest _ _ h hacc.pln.1 hn⟩
            rcases e.new _ hm with z | z
            · exact hn z
            · obtain ⟨ps, q⟩ := z _ h; exact hacc.pln.1 _ q
          have d3 := keepD e3 hn hDl
          have sr : SR G.K ρ' H3 (wip es vs) (wipe σ vs) := ((rel1.sl.mono e').mono e3).wip vs
          have en : Ext G.K ρ1 ρ' H1 H3 := e'.trans e3
          refine ho (wipe σ vs) y (wipe σ vs) H3 (fun σ2 H2 => tt σ2 H2 fun b H3 =>
              if b = true then tk σ2 H3 fun y H4 => te σ2 H4 fun z H5 => ∃ H6, DPut H5 Dl y z H6 ∧ St m (i + 1) H6 else St m (i + 1) H3) _ (wipe_wipe vs) (fun σ2 H2 w q => ⟨w, q⟩) ?_
          refine hg ρ' (wipe σ vs) H3 (wip es vs) eh' (it.tl i x) y _ ⟨sr, hr3⟩ v3 ?_
          cases qg : dg (it.tl i x) (wip es vs) eh' with
          | no =>
            rw [qg] at hw
            exact hw
          | er z h' =>
            rw [qg] at hw
            exact fun ρ' H' c own e' hr q => hw ρ' H' c own (en.trans e') hr q
          | ok es4 eh4 =>
            rw [qg] at hw
            intro ρ4 H4 σ4 e4 hr4 sr4
            have d4 := keepD e4 d3.1 d3.2
            simp only [bind_ok] at hw
            have hw4 : wr G (VR G.K) ρ1 H1 ((dt es4 eh4).bind fun b h2 => (if b = true then (dk es4 h2).bind fun y h3 => (de es4 h3).bind fun z h4 => match dputE kd acc y z with
                | some acc' => if acc.length < 50000 then dcGo kd it dg dt dk de vs m (i + 1) acc' es h4 else .no
                | none => .no else dcGo kd it dg dt dk de vs m (i + 1) acc es h2).bind fun ys h2 => .ok (.ref h2.length) (h2 ++ [.dic kd ys])) Q E := by
              cases qt : dt es4 eh4 with
              | ok b h2 => rw [qt] at hw; exact hw
              | er z h2 => rw [qt] at hw; exact hw
              | no => rw [qt] at hw; exact hw
            refine ht.bind0 ⟨sr4, hr4⟩ (en.trans e4) hw4 fun ρ5 H5 b eh5 b' e5 rel5 v5 h5 => ?_
            subst v5
            have d5 := keepD e5 d4.1 d4.2
            have e15 := (en.trans e4).trans e5
            have acc5 : DR (VR G.K ρ5 H5) kd acc us := hacc.mono fun x v q => VR.mono ((e3.trans e4).trans e5) x v q
            cases b with
            | false => exact iteF ⟨ρ5, eh5, acc, us, e15, rel5.hr, d5.1, d5.2, acc5, h5⟩
            | true =>
              simp only [if_true] at h5
              have h5' : wr G (VR G.K) ρ1 H1 ((dk es4 eh5).bind fun y h3 => ((de es4 h3).bind fun z h4 => match dputE kd acc y z with
                | some acc' => if acc.length < 50000 then dcGo kd it dg dt dk de vs m (i + 1) acc' es h4 else .no
                | none => .no).bind fun ys h2 => .ok (.ref h2.length) (h2 ++ [.dic kd ys])) Q E := by
                cases qt : dk es4 eh5 with
                | ok b h2 => rw [qt] at h5; exact h5
                | er z h2 => rw [qt] at h5; exact h5
                | no => rw [qt] at h5; exact h5
              refine iteT (hk.bind0 rel5 e15 h5' fun ρ6 H6 y6 eh6 u6 e6 rel6 v6 h6 => ?_)
              have d6 := keepD e6 d5.1 d5.2
              have h6' : wr G (VR G.K) ρ1 H1 ((de es4 eh6).bind fun z h4 => (match dputE kd acc y6 z with
                | some acc' => if acc.length < 50000 then dcGo kd it dg dt dk de vs m (i + 1) acc' es h4 else .no
                | none => .no).bind fun ys h2 => Res.ok (EV.ref h2.length) (h2 ++ [EO.dic kd ys])) Q E := by
                cases qt : de es4 eh6 with
                | ok b h2 => rw [qt] at h6; exact h6
                | er z h2 => rw [qt] at h6; exact h6
                | no => rw [qt] at h6; exact h6
              refine he.bind0 rel6 (e15.trans e6) h6' fun ρ7 H7 z7 eh7 u7 e7 rel7 v7 h7 => ?_
              have d7 := keepD e7 d6.1 d6.2
              have acc7 : DR (VR G.K ρ7 H7) kd acc us := acc5.mono fun x v q => VR.mono (e6.trans e7) x v q
              split at h7
              · rename_i acc' ha'
                split at h7
                · rename_i hl
                  obtain ⟨u', p1, p2⟩ := put_raw (G := G) d7.2 acc7 ha' hl (v6.mono e7) v7
                  have em : Ext G.K ρ1 ρ7 H1 (upd H7 Dl u') := ((e15.trans e6).trans e7).mut hD
                  have eb : Ext0 G.K ρ7 ρ7 H7 (upd H7 Dl u') := ext0_upd2 d7.2 acc7.ntup acc7.nfrz acc7.pln
                  exact ⟨_, p1, ρ7, eh7, acc', u', em, rel7.hr.ext eb (fun a ha => upd_ne fun z => d7.1 (z ▸ ha)) (tabs_upd rel7.hr.tab fun v hv => by rw [d7.2] at hv; cases hv; exact hacc.pln), d7.1, upd_same, p2.mono fun x v q => VR.mono0 eb x v q, h7⟩
                · exact h7.elim
              · exact h7.elim
variable {X : Cx} {ct : Nat → Addr × List Str} {kx vx tg iter c : Expr} {scope : Scope} {pos : Pos} {di : DI} {dg : DG} {dt : DT} {dk de : DE}
theorem xe_dc (kd : Bool) (own : List (Str × Nat)) {g : TG} (hu : X.A.units + 1 < cLine) (hc : X.calm = true) (hN : X.N.Nodup) (hi : PId X ct E tg iter di) (hk : InBlk X scope fun Y => PEd Y ct E kx dk) (hv : InBlk X scope fun Y => PEd Y ct E vx de)
    (hg : InBlk X scope fun Y => PG Y tg g) (hg2 : SndG ⟨X.K, ct⟩ E g dg) (ho : OnlyIn g (own.map (·.2)))
    (ok : blkC X.N X.env.scope scope own = true := by kernel_rfl) (hs : ∀ x, foldedSetIterable iter X.env x = pure x := by intro _; rfl) :
    PEd X ct E (.DictComp kx vx [⟨tg, iter, [], 0⟩] scope pos) (dDc kd di dg dYes dk de (own.map (·.2))) := by
  obtain ⟨wi, i1, i2⟩ := hi
  exact ⟨_, pe_dcG (o0_ok kd) hu hc hN i1 (blkOk_by ok) hg (fun _ _ _ _ _ => pts_nil) (fun s H C cl fp => (hk s H C cl fp).can) (fun s H C cl fp => (hv s H C cl fp).can) hs, snd_dc i2 hg2 ho snd_yes snd_tE snd_tE⟩
theorem xe_dci (kd : Bool) (own : List (Str × Nat)) {g : TG} (hu : X.A.units + 1 < cLine) (hc : X.calm = true) (hN : X.N.Nodup) (hi : PId X ct E tg iter di) (ht : InBlk X scope fun Y => PTd Y ct E c dt) (hk : InBlk X scope fun Y => PEd Y ct E kx dk) (hv : InBlk X scope fun Y => PEd Y ct E vx de)
    (hg : InBlk X scope fun Y => PG Y tg g) (hg2 : SndG ⟨X.K, ct⟩ E g dg) (ho : OnlyIn g (own.map (·.2)))
    (ok : blkC X.N X.env.scope scope own = true := by kernel_rfl) (hs : ∀ x, foldedSetIterable iter X.env x = pure x := by intro _; rfl) :
    PEd X ct E (.DictComp kx vx [⟨tg, iter, [c], 0⟩] scope pos) (dDc kd di dg dt dk de (own.map (·.2))) := by
  obtain ⟨wi, i1, i2⟩ := hi
  exact ⟨_, pe_dcG (o0_ok kd) hu hc hN i1 (blkOk_by ok) hg (fun s H C cl fp => pts_one (ht s H C cl fp).can) (fun s H C cl fp => (hk s H C cl fp).can) (fun s H C cl fp => (hv s H C cl fp).can) hs, snd_dc i2 hg2 ho snd_tT snd_tE snd_tE⟩
end
end EE
set_option Elab.async false
set_option linter.all false
set_option maxRecDepth 100000
set_option maxHeartbeats 1000000
namespace EE
open PySem PySem.Spec PyProof.Rows L2
def mergeT (acc : List (List Key × V)) (rest : List (List Key × V)) : List (List Key × V) := rest.foldl (fun a q => putK a q.1 q.2) acc
theorem mergeT_len (rest : List (List Key × V)) : ∀ acc, (mergeT acc rest).length ≤ acc.length + rest.length := by
  induction rest with
  | nil => intro acc; exact Nat.le_refl _
  | cons q rest ih =>
    intro acc
    have h1 := ih (putK acc q.1 q.2)
    have h2 := length_putK acc q.1 q.2
    show (mergeT (putK acc q.1 q.2) rest).length ≤ _
    rw [List.length_cons]
    omega
section
variable {X : Cx}
def PairT (H : Hp) (b : Addr) (q : List Key × V) : Prop := ∃ kb : Addr, H b = some (.tup [.ref kb, q.2]) ∧ H kb = some (.tup (q.1.map kV))
theorem pairT_is {pins : List (Addr × Obj)} {σ : L2.St} {H : Hp} {s : Shared} {b : Addr} {q : List Key × V} (I : L2.Inv X pins σ H s) (h : PairT H b q) : ∃ (kb : Addr) (u : Value), IsTup s.heap b #[.ref kb, u] ∧ RelV q.2 u ∧ H kb = some (.tup (q.1.map kV)) := by
  obtain ⟨kb, h1, h2⟩ := h
  obtain ⟨_, its, r, o, ho, hc, n, hd⟩ := I.hok b _ h1
  obtain ⟨w1, w2, rfl, r1, r2⟩ := vals2 r
  cases r1
  exact ⟨kb, w2, ⟨o, ho, hc, n, hd⟩, r2, h2⟩
theorem updT_loop {A : Around} {R : Result → Shared → Prop} {pins : List (Addr × Obj)} {σ : L2.St} {H : Hp} {S Ia l : Addr} {items : Array Value} {res : Value} (hu : A.units + 1 < cLine) (hh : A.handled = none) (hS : H S = none) (nlI : l ≠ Ia) (nSI : S ≠ Ia) (nSl : S ≠ l) :
    ∀ (rest : List (List Key × V)) (i : Nat) (acc : List (List Key × V)) (ix : Int) (t : Tok) (s : Shared), items.size = i + rest.length → acc.length + rest.length ≤ sizeLine →
      (∀ (j : Nat) (q : List Key × V), rest[j]? = some q → ∃ b : Addr, items[i + j]? = some (.ref b) ∧ PairT H b q) →
      L2.Inv X pins σ (upd H S (.dT acc)) s → FpOk X pins H Ia → s.heap.IsListIter Ia l i → s.heap.IsList l items →
      (∀ s', L2.Inv X pins σ (upd H S (.dT (mergeT acc rest))) s' → R (.ok (.ret res)) s') →
      codeAny (model X.prog X.w) A (.builtin "dict.update.loop" ⟨[.ref S, .ref Ia, .int ix t, res], []⟩) R s := by
  intro rest
  induction rest with
  | nil =>
    intro i acc ix t s hsz hln hat I f hit hl hR
    refine codeAny_builtin ud_entry ?_
    rw [Around.under_plainId ud_plain _]
    show wpAny _ A.in1 (pyNext (.ref Ia) >>= _) _ _ s
    have hnone : items[i]? = none := Array.getElem?_eq_none (by rw [hsz, List.length_nil]; exact Nat.le_refl _)
    refine wpAny_bind (wpAny_pyNext_list_end (A := A.in1) hh hit hl hnone fun h' he => ?_)
    refine wpAny_bind (m := Builtin.Dict.addKeywords S []) (wpAny_pure (wpAny_pure ?_))
    obtain ⟨f0, f1, f2, f3, f4, f5⟩ := f
    exact hR _ (I.turned (t' := s.toks) (fun b o hb e => he b o hb e) (by rw [upd_ne (Ne.symm nSI)]; exact f0) f1 f3 f4 f5)
  | cons q rest ih =>
    intro i acc ix t s hsz hln hat I f hit hl hR
    obtain ⟨b, hb, hpair⟩ := hat 0 q rfl
    rw [List.length_cons] at hsz hln
    have upS : ∀ {a : Addr} {u : HO}, H a = some u → a ≠ S := fun e z => by
      rw [z, hS] at e
      cases e
    have hpair' : PairT (upd H S (.dT acc)) b q := by
      obtain ⟨kb, h1, h2⟩ := hpair
      exact ⟨kb, by rw [upd_ne (upS h1)]; exact h1, by rw [upd_ne (upS h2)]; exact h2⟩
    obtain ⟨f0, f1, f2, f3, f4, f5⟩ := id f
    refine codeAny_builtin ud_entry ?_
    rw [Around.under_plainId ud_plain _]
    show wpAny _ A.in1 (pyNext (.ref Ia) >>= _) _ _ s
    refine wpAny_bind (wpAny_pyNext_list_item (x := .ref b) hit hl (by simpa using hb) fun h1 hit1 sb1 => ?_)
    have I1 : L2.Inv X pins σ (upd H S (.dT acc)) { s with heap := h1 } := I.turned (t' := s.toks) (fun b o hb e => (sb1.2 b hb).trans e) (by rw [upd_ne (Ne.symm nSI)]; exact f0) f1 f3 f4 f5
    have hl1 : h1.IsList l items := hl.extBut sb1.extBut nlI
    obtain ⟨kb, u, ht1, ru, hkb⟩ := pairT_is I1 hpair'
    obtain ⟨o, ho, hc, n, hd⟩ := id ht1
    refine wpAny_bind (wpAny_holding (wpAny_bind (wpAny_tryCatch ?_)))
    unfold Builtin.Dict.pairItems
    refine wpAny_bind (wpAny_typeOf (T := "tuple") ⟨o, ho, hc⟩ ?_)
    rw [if_pos (by decide)]
    refine wpAny_bind (wpAny_seqItems ho hd (wpAny_pure ?_))
    show wpAny _ A.in1 (holding [.ref kb, u] (dictSet S (.ref kb) u)) _ _ _
    obtain ⟨z, hsys, xs, rel, dd⟩ := dt_of I1.hok (upd_same : (upd H S (HO.dT acc)) S = _)
    have c1 : xs.length ≤ sizeLine := by rw [← Paired.length rel]; exact z
    have c2 := length_putK acc q.1 q.2
    refine wpAny_holding (wpAny_dictSet_heap (hsz := c1) (show A.units + 1 < cLine from hu) (key_of I1.hok hkb) dd fun h2 dd2 sb2 => ?_)
    obtain ⟨od, es, ep, k1, k2, k3, k4, _, k6⟩ := dd2
    have e2 : upd (upd H S (.dT acc)) S (.dT (putK acc q.1 q.2)) = upd H S (.dT (putK acc q.1 q.2)) := by
      funext a
      by_cases ha : a = S
      · rw [ha, upd_same, upd_same]
      · rw [upd_ne ha, upd_ne ha, upd_ne ha]
    have I2 : L2.Inv X pins σ (upd H S (.dT (putK acc q.1 q.2))) { s with heap := h2, toks := s.toks + (tupleKind (mixKind X.prog X.w)).draws q.1 } := by
      rw [← e2]
      refine d_write (s := { s with heap := h1 }) I1 (by rw [upd_same]; exact True.intro) sb2 ⟨od, k1⟩ ⟨by omega, hsys, _, (rel.put q.1 hkb ru).keeps fun c ys ec => ?_, od, es, ep, k1, k2, k3, k4, k6⟩
      rw [upd_ne (fun zz => by subst zz; rw [upd_same] at ec; cases ec)]
      exact ec
    refine wpAny_pure ⟨plainId_quiet ud_plain _, ih (i + 1) (putK acc q.1 q.2) (ix + 1) 0 _ (by omega) (by omega) (fun j q' e => ?_) I2 f (hit1.at fun o' e => (sb2.2 Ia (Ne.symm nSI)).trans e) (hl1.extBut sb2.extBut (Ne.symm nSl)) hR⟩
    obtain ⟨b', h1', h2'⟩ := hat (j + 1) q' (by simpa using e)
    exact ⟨b', by rw [show i + 1 + j = i + (j + 1) by omega]; exact h1', h2'⟩
def rDictT (K : Fg) : List V → Hp → VK → Prop := fun xs H Q => ∃ (a : Addr) (ps : List Addr) (kvs : List (List Key × V)), xs = [.ref a] ∧ SqL K H a (ps.map V.ref) ∧ Paired (PairT H) ps kvs ∧ ∀ p, H p = none → Q (.ref p) (upd H p (.dT (mergeT [] kvs)))
theorem call_dictPT (hcalm : X.calm = true) (hu : X.A.units + 2 < cLine) : CallR X (.type "dict") (rDictT X.K) := by
  intro pins s σ H xs us Q I r h
  obtain ⟨a, ps, kvs, rfl, hq, hp, q⟩ := h
  obtain ⟨u, rfl, rx⟩ := r.one
  cases rx
  obtain ⟨its, rv, pl, hz⟩ := I.list hq
  have ei := refs_at rv
  subst ei
  rw [List.length_map] at hz
  have hpl : ps.length = kvs.length := Paired.length hp
  obtain ⟨ol, n, hol, hc, hd, hdat⟩ := pl
  have hS0 : H s.heap.objs.size = none := I.hok.fresh (Nat.le_refl _)
  have I1 : L2.Inv X pins σ (upd H s.heap.objs.size (.dT [])) { s with heap := s.heap.push { cls := .type "dict", data := .dict #[] } } :=
    I.laid (t' := s.toks) (fun _ _ q => Heap.get?_push_of_some _ q) (Nat.le_refl _) (dt_empty s.heap I.big)
  refine callType_codes (Q₁ := fun obj s₁ => obj = .ref s.heap.objs.size ∧ s₁ = { s with heap := s.heap.push { cls := .type "dict", data := .dict #[] } }) PySem.F.kt_called_dict (PySem.F.kt_typeCall_dict_1 _) PySem.F.entry_dict_init (kt_code_dict_new _ ⟨rfl, rfl⟩) ?_
  rintro obj t1 ⟨rfl, rfl⟩
  have hnew : (s.heap.push { cls := .type "dict", data := .dict #[] }).get? s.heap.objs.size = some { cls := .type "dict", data := .dict #[] } := Heap.get?_push_size _ rfl
  have ty : Shared.TypeIs { s with heap := s.heap.push { cls := .type "dict", data := .dict #[] } } (.ref s.heap.objs.size) "dict" := ⟨_, hnew, rfl⟩
  refine ⟨ty, PySem.F.args_dict_init_2 _ _, ?_⟩
  unfold Builtin.«dict.__init__»
  refine wpAny_bind ?_
  unfold Builtin.Dict.selfAndRest
  refine wpAny_bind (wpAny_notOrdered_dict ty ?_)
  refine wpAny_pure ?_
  show wpAny _ _ (Builtin.Dict.updateFrom "dict.__init__" s.heap.objs.size (.ref a) [] .none) _ _ _
  unfold Builtin.Dict.updateFrom
  have hol1 := Heap.get?_push_of_some { cls := .type "dict", data := .dict #[] } hol
  refine wpAny_bind (wpAny_typeOf (T := "list") ⟨ol, hol1, hc⟩ ?_)
  rw [if_pos (by decide)]
  refine wpAny_bind (miss_list hol1 hc hdat hd (I.ok.hd hcalm) fun h1 tk1 hk1 => ?_)
  rw [if_pos (by rfl)]
  refine wpAny_bind (wpAny_rule ?_)
  have I2 : L2.Inv X pins σ (upd H s.heap.objs.size (.dT [])) { s with heap := h1, toks := tk1 } := I1.kept hk1
  have hl1 : h1.IsList a (ps.map Value.ref).toArray := ⟨ol, hk1 _ _ hol1, hc, n, hdat⟩
  refine wpAny_bind (wpAny_pyIter_list hl1 ?_)
  have I3 : L2.Inv X pins σ (upd H s.heap.objs.size (.dT [])) { s with heap := h1.push { cls := .type "list_iterator", data := .fields #[.ref a, .int 0 0] }, toks := tk1 } := I2.kept fun b o e => Heap.get?_push_of_some _ e
  have hS1 : s.heap.objs.size < h1.objs.size := Heap.lt_size (hk1 _ _ hnew)
  have ha : a < s.heap.objs.size := Heap.lt_size hol
  have hfz : H h1.objs.size = none := I.hok.fresh (Nat.le_of_lt hS1)
  have hfz2 : (upd H s.heap.objs.size (.dT [])) h1.objs.size = none := by rw [upd_ne (Nat.ne_of_gt hS1)]; exact hfz
  have f3 := I2.fpOk (b := h1.objs.size) (Nat.le_refl _) hfz2
  have f4 : FpOk X pins H h1.objs.size := ⟨hfz, f3.2⟩
  have key := updT_loop (X := X) (A := X.A.in1) (R := wants (fun r t2 => r = .none ∧ EP X pins σ Q (.ref s.heap.objs.size) t2) X.xe) (S := s.heap.objs.size) (Ia := h1.objs.size) (l := a) (items := (ps.map Value.ref).toArray) (res := Value.none)
    (show X.A.units + 1 + 1 < cLine by omega) (I.ok.hd hcalm) hS0 (Nat.ne_of_lt (Nat.lt_trans ha hS1)) (Nat.ne_of_lt hS1) (Nat.ne_of_gt ha) kvs 0 [] 0 0
    { s with heap := h1.push { cls := .type "list_iterator", data := .fields #[.ref a, .int 0 0] }, toks := tk1 } (by rw [List.size_toArray, List.length_map, hpl, Nat.zero_add]) (by rw [List.length_nil, Nat.zero_add, ← hpl]; exact hz)
    (fun j q' e => by
      have : j < kvs.length := (List.getElem?_eq_some_iff.mp e).1
      have hj : ps[j]? = some ps[j] := List.getElem?_eq_getElem (by omega)
      obtain ⟨q2, e2, hq2⟩ := paired_get hp hj
      rw [e] at e2
      cases e2
      refine ⟨ps[j], ?_, hq2⟩
      rw [Nat.zero_add, List.getElem?_toArray, List.getElem?_map, hj]
      rfl)
    I3 f4 ⟨_, Heap.get?_push_size _ rfl, rfl, rfl⟩ (hl1.at fun o e => Heap.get?_push_of_some _ e) (fun s' I' => ⟨rfl, .ref s.heap.objs.size, _, I', rfl, q _ hS0⟩)
  first
    | exact wpAny_pure ⟨plainId_quiet ud_plain _, key⟩
    | exact wpAny_bind (wpAny_pure (wpAny_pure ⟨plainId_quiet ud_plain _, key⟩))
end
end EE
set_option Elab.async false
set_option linter.all false
set_option maxRecDepth 100000
set_option maxHeartbeats 1000000
namespace EE
open PySem PySem.Spec PyProof.Rows L2
def dfoldT : List (EV × EV) → List EV → Option (List (EV × EV))
  | acc, [] => some acc
  | acc, y :: r => match y with
    | .tup [k, v] => match dputE true acc k v with
      | some acc' => dfoldT acc' r
      | none => none
    | _ => none
def fDictT : DL := fun xs h => match xs with
  | [.ref n] => match lstAt h n with
    | some ys => match dfoldT [] ys with
      | some kvs => .ok (.ref h.length) (h ++ [.dic true kvs])
      | none => .no
    | none => .no
  | _ => .no
theorem dfoldT_ok {K : Fg} {ρ : Rho} {H : Hp} : ∀ {ys : List EV} {acc out : List (EV × EV)} {la : List (List Key × V)} {vs : List V}, KR tkeyOf (VR K ρ H) acc la → VRs K ρ H ys vs → dfoldT acc ys = some out →
    ∃ (ps : List Addr) (kvs : List (List Key × V)), vs = ps.map V.ref ∧ Paired (PairT H) ps kvs ∧ KR tkeyOf (VR K ρ H) out (mergeT la kvs)
  | [], acc, out, la, vs, hk, hv, h => by
    cases h
    rw [vrs_nil.mp hv]
    exact ⟨[], [], rfl, .nil, hk⟩
  | y :: r, acc, out, la, vs, hk, hv, h => by
    obtain ⟨v, vr, rfl, hv1, hv2⟩ := vrs_cons.mp hv
    unfold dfoldT at h
    split at h
    · rename_i k x
      split at h
      · rename_i acc' e1
        obtain ⟨kk, e2, e3⟩ := Option.map_eq_some_iff.mp e1
        subst e3
        obtain ⟨a, ws, rfl, hb, hw⟩ := vr_tup.mp hv1
        obtain ⟨w1, w2, rfl, h1, h2⟩ := vrs_two hw
        obtain ⟨kb, rfl, hkb⟩ := tkeyOf_eq e2 h1
        obtain ⟨ps, kvs, q1, q2, q3⟩ := dfoldT_ok (hk.put e2 h2) hv2 h
        exact ⟨a :: ps, (kk, w2) :: kvs, by rw [q1]; rfl, .cons ⟨kb, hb, hkb⟩ q2, q3⟩
      · cases h
    · cases h
section
variable {X : Cx} {ct : Nat → Addr × List Str} {E : XK} {G : Gx}
theorem c_dictT (hc : X.calm = true) (hu : X.A.units + 2 < cLine) : Cld X ct E (.type "dict") fDictT := ⟨_, call_dictPT hc hu, fun ρ H eh xs as Q hr hx h => by
  unfold fDictT at h
  split at h
  · rename_i n
    split at h
    · rename_i ys e1
      split at h
      · rename_i kvs e2
        obtain ⟨v, rfl, hv⟩ := vrs_one hx
        obtain ⟨a, vs, g1, g2, g3⟩ := lst_of hr e1
        obtain ⟨a', q1, rfl⟩ := vr_ref.mp hv
        rw [g1] at q1; cases q1
        obtain ⟨ps, l, rfl, k2, k3⟩ := dfoldT_ok (acc := []) (la := []) (K := X.K) (ρ := ρ) (H := H) rfl g3 e2
        refine ⟨a, ps, l, rfl, g2, k2, fun p hp => ?_⟩
        exact h (ρ ++ [(true, p)]) _ _ (Ext.alloc _ hp) (hr.alloc (o := .dic true kvs) hp rfl ⟨_, upd_same, _, rfl, k3.mono fun x v => VR.mono (Ext.alloc _ hp) x v⟩) (vr_ref.mpr ⟨p, last_get hr.len, rfl⟩)
      · exact h.elim
    · exact h.elim
  · exact h.elim⟩
def dTru (a : DE) : DT := fun es h => (a es h).bind fun x h1 => match x with
  | .tup xs => .ok (!xs.isEmpty) h1
  | .bl b => .ok b h1
  | .non => .ok false h1
  | .int i => .ok (i != 0) h1
  | .ref n => match lstAt h1 n with
    | some xs => .ok (!xs.isEmpty) h1
    | none => match mdicAt h1 n with
      | some (false, kvs) => .ok (!kvs.isEmpty) h1
      | _ => .no
  | _ => .no
theorem vrs_empty {K : Fg} {ρ : Rho} {H : Hp} : ∀ {xs : List EV} {vs : List V}, VRs K ρ H xs vs → xs.isEmpty = vs.isEmpty
  | [], vs, h => by rw [vrs_nil.mp h]; rfl
  | x :: xs, vs, h => by
    obtain ⟨v, r, rfl, _, _⟩ := vrs_cons.mp h
    rfl
variable {a : Expr} {d : DE}
theorem xt_tru (h : PEd X ct E a d) (he : ∀ whole, isTrue a X.env whole = (do let v ← whole; standAt a.pos; holding [v] (truthy v)) := by intro _; rfl) : PTd X ct E a (dTru d) := by
  obtain ⟨t, h1, h2⟩ := h
  refine ⟨_, pt_truth h1 he, fun ρ σ H es eh Q rel hw => ?_⟩
  refine h2.bind rel hw fun ρ1 H1 x eh1 u e1 rel1 v1 h1 => ?_
  cases x with
  | tup xs =>
    obtain ⟨p, vs, rfl, g2, g3⟩ := vr_tup.mp v1
    exact ⟨_, .inr (.inl ⟨vs, SqT.of g2, rfl⟩), h1 ρ1 H1 _ (Ext.refl _ _ _) rel1.hr (congrArg not (vrs_empty g3))⟩
  | bl b => rw [vr_bl.mp v1]; exact ⟨b, rfl, h1 ρ1 H1 _ (Ext.refl _ _ _) rel1.hr rfl⟩
  | non => rw [vr_non.mp v1]; exact ⟨false, rfl, h1 ρ1 H1 _ (Ext.refl _ _ _) rel1.hr rfl⟩
  | int i => rw [vr_int.mp v1]; exact ⟨_, rfl, h1 ρ1 H1 _ (Ext.refl _ _ _) rel1.hr rfl⟩
  | ref n =>
    simp only at h1
    split at h1
    · rename_i xs e2
      obtain ⟨a1, vs, g1, g2, g3⟩ := lst_of rel1.hr e2
      obtain ⟨a', q1, rfl⟩ := vr_ref.mp v1
      rw [g1] at q1; cases q1
      exact ⟨_, .inl ⟨vs, g2, rfl⟩, h1 ρ1 H1 _ (Ext.refl _ _ _) rel1.hr (congrArg not (vrs_empty g3))⟩
    · split at h1
      · rename_i kvs e2
        obtain ⟨a1, u, g1, g2, g3, _⟩ := mdic_of rel1.hr e2
        obtain ⟨a', q1, rfl⟩ := vr_ref.mp v1
        rw [g1] at q1; cases q1
        obtain ⟨l, rfl, hk⟩ := g3
        refine ⟨_, .inr (.inr ⟨l, g2, rfl⟩), h1 ρ1 H1 _ (Ext.refl _ _ _) rel1.hr (congrArg not ?_)⟩
        have := hk.len
        cases kvs <;> cases l <;> simp_all
      · exact h1.elim
  | _ => exact h1.elim
end
theorem hu1 {k : Nat} {A : Around} (hr : Room k A) : A.units + 1 < cLine := by have := hr.un; omega
theorem hu2 {k : Nat} {A : Around} (hr : Room k A) : A.units + 2 < cLine := by have := hr.un; omega
def spAny (K : Fg) (f : DL) : Sp := fun vs H Q E => ∀ ct : Nat → Addr × List Str, tabOf ct = [] → spD0 ⟨K, ct⟩ f vs H Q E
theorem _root_.L2.FnOk.any {P : Program} {w : World} {K : Fg} {mg : Str → Option Value} {base : Heap} {k : Nat} {f : Addr} {fd : FuncData} {ps : List Str} {fn : DL} {ct : Nat → Addr × List Str} (F : FnOk P w K mg base CX0 k f fd ps (spD0 ⟨K, ct⟩ fn)) (ht : tabOf ct = [] := by rfl) : FnOk P w K mg base CX0 k f fd ps (spAny K fn) :=
  ⟨fun vs H Q E h => F.len vs H Q E (h ct ht), fun A outer s H args us vs Q E h1 h2 h3 h4 h => F.run A outer s H args us vs Q E h1 h2 h3 h4 (h ct ht)⟩
theorem law_spA {K : Fg} {fn : DL} (hl : LawOk fn) {H : Hp} {a : Addr} {ns : List Int} (hn : ns.length ≤ 63) (hO : Only H) (hS : SqL K H a (ns.map V.int)) : spAny K fn [.ref a] H (fun v _ => v = .bl true) E0 := fun ct ht => law_sp hl hn hO hS ht
end EE
set_option Elab.async false
set_option linter.all false
set_option maxRecDepth 100000
set_option maxHeartbeats 1000000
namespace EE
open PySem PySem.Spec PyProof.Rows L2
section
variable {prog : Program} {w : World} {A : Around} {E : Value → Shared → Prop} {s : Shared}
theorem walks_rest (hh : A.handled = none) (Ia t : Addr) (ne : t ≠ Ia) (items : Array Value) (i0 : Nat) (h0 : i0 ≤ items.size) :
    Walks prog w A Ia [Ia, t] [Ia] (items.size - i0) (fun j v => items[i0 + j]? = some v) (fun j h => IsTupIter h Ia t (i0 + j) ∧ IsTup h t items) where
  sub := fun b hb => by
    rw [List.mem_singleton.mp hb]
    exact List.mem_cons_self
  frame := fun j h h' st k => by
    obtain ⟨⟨o, ho, r⟩, o2, ho2, r2⟩ := st
    exact ⟨⟨o, k Ia (by simp) o ho, r⟩, o2, k t (by simp) o2 ho2, r2⟩
  item := fun j s Q E hj st hQ => by
    have hlt : i0 + j < items.size := by omega
    refine next_tuple_item st.1 st.2 (x := items[i0 + j]) (by simp [hlt]) fun h1 hit hs => ?_
    exact hQ _ h1 s.toks (by simp [hlt]) ⟨hit, st.2.extBut hs.extBut ne⟩ fun b o hb e => hs.extBut b o (fun z => hb (by simp [z])) e
  done := fun s Q E st hQ => next_tuple_end hh st.1 st.2 (Array.getElem?_eq_none (by omega)) fun h1 he => hQ h1 s.toks fun b o hb e => he b o (fun z => hb (by simp [z])) e
  self := fun j s Q E st h => by
    obtain ⟨o, ho, hc, hd⟩ := st.1
    exact wpAny_pyIter_tupleiter ⟨o, ho, hc, hd⟩ h
theorem unpack_rest {t : Addr} {items : List Value} {i0 : Nat} {Q : List Value → Shared → Prop} (hh : A.handled = none) (ht : IsTup s.heap t items.toArray) (h0 : i0 ≤ items.length) (hz : items.length ≤ sizeLine)
    (hQ : ∀ (h2 : Heap) (tk : Nat), (∀ b o, s.heap.get? b = some o → h2.get? b = some o) → Q (items.take i0 ++ [.ref h2.objs.size]) { s with heap := h2.push { cls := .type "list", data := .seq (items.drop i0).toArray }, toks := tk }) :
    wpAny (model prog w) A (unpackItems (.ref t) (i0 + 1) (some i0)) Q E s := by
  have hlt : t ≠ s.heap.objs.size := by
    obtain ⟨o, ho, _⟩ := ht
    exact Nat.ne_of_lt (Heap.lt_size ho)
  unfold unpackItems
  refine wpAny_bind (m := notIterableAtAll _) ?_
  unfold notIterableAtAll
  refine wpAny_bind (wpAny_specialOf ht.typeIs slot_tuple_iter.lookup (wpAny_pure ?_))
  simp only [Bool.false_eq_true, if_false]
  refine wpAny_bind (wpAny_holding (iter_tuple ht ?_))
  refine wpAny_bind (wpAny_holding (draw_tuple hlt i0 0 _ _ ⟨_, Heap.get?_push_size _ rfl, rfl, rfl⟩ (ht.push _) (by simpa using h0) fun h1 hit1 sb1 => ?_))
  have e1 : List.take i0 (List.drop 0 items.toArray.toList) = items.take i0 := by simp
  rw [e1, if_neg (by rw [List.length_take]; omega)]
  have ht1 : IsTup h1 t items.toArray := (ht.push _).extBut sb1.extBut hlt
  rw [Nat.zero_add] at hit1
  have hsz : s.heap.objs.size < h1.objs.size := by
    obtain ⟨o, ho, _⟩ := hit1
    exact Heap.lt_size ho
  refine wpAny_bind (wpAny_holding (wpAny_collect_iter (T := "tuple_iterator") (.inr (.inr (.inr rfl))) (walks_rest (A := A.in1) hh s.heap.objs.size t hlt items.toArray i0 (by simpa using h0)).toS (fun j s' st => ?_) ⟨by rw [Nat.add_zero]; exact hit1, ht1⟩ (fun b hb => ?_) (by simp) (fun s2 acc hm hacc => ?_) (by simp; omega)))
  · obtain ⟨⟨o, ho, hc, _⟩, _⟩ := st
    exact ⟨o, ho, hc⟩
  · rcases List.mem_cons.mp hb with e | hb
    · rw [e]
      exact hsz
    · rw [List.mem_singleton.mp hb]
      exact ht1.lt
  · have ea : acc.toList = items.drop i0 := by
      have hl : acc.size = items.length - i0 := by simpa using hacc.1
      apply List.ext_getElem?
      intro j
      rw [List.getElem?_drop]
      cases hj : acc.toList[j]? with
      | none =>
        have := List.getElem?_eq_none_iff.mp hj
        rw [Array.length_toList] at this
        exact (List.getElem?_eq_none (by omega)).symm
      | some v =>
        have := hacc.2 j v (by rw [← Array.getElem?_toList]; exact hj)
        simpa using this.symm
    rw [ea, show i0 + 1 - 1 - i0 = 0 by omega, if_neg (by omega), Nat.sub_zero, List.take_length, List.drop_length]
    simp only [List.append_nil]
    refine wpAny_bind (wpAny_newList (wpAny_pure ?_) (by rw [List.length_drop]; omega))
    have hk : ∀ b o, s.heap.get? b = some o → s2.heap.get? b = some o := fun b o e => by
      have n : b ≠ s.heap.objs.size := Nat.ne_of_lt (Heap.lt_size e)
      exact hm.heap b o (by simpa using n) ((sb1.2 b n).trans (Heap.get?_push_of_some _ e))
    rw [Moved.eq_with hm]
    exact hQ _ _ hk
end
def gStar (K : Fg) (i0 : Nat) (t : TGs) : TG := fun v σ H Q => ∃ a xs, v = V.ref a ∧ SqT K H a xs ∧ i0 ≤ xs.length ∧ ∀ l, H l = none → t (xs.take i0 ++ [.ref l]) σ (upd H l (.lst (xs.drop i0))) Q
def dGStar (i0 : Nat) (r : DGs) : DG := fun x es h => match x with
  | .tup xs => if i0 ≤ xs.length then r (xs.take i0 ++ [.ref h.length]) es (h ++ [.lst (xs.drop i0)]) else .no
  | _ => .no
theorem vals_take {xs : List V} {us : List Value} (r : Vals xs us) : ∀ n, Vals (xs.take n) (us.take n) := by
  induction r with
  | nil => intro n; rw [List.take_nil, List.take_nil]; exact .nil
  | cons a r ih =>
    intro n
    cases n with
    | zero => exact .nil
    | succ n => exact .cons a (ih n)
theorem vals_drop {xs : List V} {us : List Value} (r : Vals xs us) : ∀ n, Vals (xs.drop n) (us.drop n) := by
  induction r with
  | nil => intro n; rw [List.drop_nil, List.drop_nil]; exact .nil
  | cons a r ih =>
    intro n
    cases n with
    | zero => exact .cons a r
    | succ n => exact ih n
section
variable {X : Cx} {ct : Nat → Addr × List Str} {E : XK} {G : Gx} {e : Expr} {es : List Expr} {pos p : Pos}
theorem pgs_star {t : TG} (h : PG X e t) (hs : (assignEach [.Starred e p] X.env).map (·.2) = [assign e X.env] := by rfl) (hs1 : (assignEach [e] X.env).map (·.2) = [assign e X.env] := by rfl) : PGs X [.Starred e p] (gCons t gNil) := by
  have q := pgs_cons h pgs_nil (by rw [hs1]; rfl)
  refine ⟨fun pins s σ H vs us Q I r hw => ?_⟩
  have := q.run pins s σ H vs us Q I r hw
  rw [hs1] at this
  rw [hs]
  exact this
theorem pg_tupStar {k i0 : Nat} {t : TGs} (hc : X.calm = true) (h : PGs X es t) (hn : (assignEach es X.env).length = i0 + 1 := by rfl) (hst : (assignEach es X.env).findIdx? (·.1) = some i0 := by rfl) : PG X (.Tuple es k pos) (gStar X.K i0 t) := by
  refine ⟨fun pins s σ H v u Q I r hw => ?_⟩
  obtain ⟨a, xs, rfl, hq, hl, hw⟩ := hw
  cases r
  obtain ⟨its, rv, ht, hz⟩ := I.tuple hq
  have hlen := rv.length
  rw [assign_Tuple]
  refine wpAny_bind (wpAny_standAt ?_)
  unfold unpack
  rw [hn, hst]
  refine wpAny_bind (wpAny_holding (unpack_rest (I.ok.hd hc) ht (by omega) (by omega) fun h2 tk hk => ?_))
  have I2 : L2.Inv X pins σ H { s with heap := h2, toks := tk } := I.kept hk
  have hf : H h2.objs.size = none := I2.hok.fresh (Nat.le_refl _)
  have new : ObjOk X.prog X.w (upd H h2.objs.size (.lst (xs.drop i0))) (h2.push { cls := .type "list", data := .seq (its.drop i0).toArray }) h2.objs.size (.lst (xs.drop i0)) :=
    ⟨by rw [List.length_drop]; omega, its.drop i0, 0, vals_drop rv i0, Heap.get?_push_size _ rfl⟩
  have I3 : L2.Inv X pins σ (upd H h2.objs.size (.lst (xs.drop i0))) { s with heap := h2.push { cls := .type "list", data := .seq (its.drop i0).toArray }, toks := tk } :=
    I2.laid (t' := tk) (fun b o e => Heap.get?_push_of_some _ e) (Nat.le_refl _) new
  exact h.run pins _ σ _ _ _ Q I3 ((vals_take rv i0).append (.cons (a := V.ref h2.objs.size) rfl .nil)) (hw _ hf)
theorem snd_gstar {i0 : Nat} {u : TGs} {ds : DGs} (h2 : SndGs G E u ds) : SndG G E (gStar G.K i0 u) (dGStar i0 ds) := fun ρ σ H es eh x us Q rel hx h => by
  cases x with
  | tup xs =>
    obtain ⟨a, vs, rfl, g2, g3⟩ := vr_tup.mp hx
    simp only [dGStar] at h
    split at h
    · rename_i hl
      refine ⟨a, vs, rfl, SqT.of g2, by rw [← g3.length]; exact hl, fun l hn => ?_⟩
      have e1 : Ext G.K ρ (ρ ++ [(true, l)]) H (upd H l (.lst (vs.drop i0))) := Ext.alloc _ hn
      have hr := rel.hr.alloc (u := .lst (vs.drop i0)) (o := .lst (xs.drop i0)) hn rfl ⟨_, upd_same, VRs.mono e1 _ _ (g3.drop i0)⟩
      exact h2 (ρ ++ [(true, l)]) σ _ es _ _ _ Q (rel.ext e1 hr) ((VRs.mono e1 _ _ (g3.take i0)).append (VRs.one (vr_ref.mpr ⟨l, last_get rel.hr.len, rfl⟩))) (h.mono e1)
    · exact h.elim
  | _ => exact h.elim
theorem xgs_star {d : DG} (h : PGd X ct E e d) (hs : (assignEach [.Starred e p] X.env).map (·.2) = [assign e X.env] := by rfl) (hs1 : (assignEach [e] X.env).map (·.2) = [assign e X.env] := by rfl) : PGsd X ct E [.Starred e p] (dGCons d dGNil) := by
  obtain ⟨t, a1, a2⟩ := h
  exact ⟨_, pgs_star a1 hs hs1, snd_gcons a2 snd_gnil⟩
theorem xg_star {k i0 : Nat} {d : DGs} (hc : X.calm = true) (h : PGsd X ct E es d) (hn : (assignEach es X.env).length = i0 + 1 := by rfl) (hst : (assignEach es X.env).findIdx? (·.1) = some i0 := by rfl) : PGd X ct E (.Tuple es k pos) (dGStar i0 d) := by
  obtain ⟨t, a1, a2⟩ := h
  exact ⟨_, pg_tupStar hc a1 hn hst, snd_gstar a2⟩
end
def MethDB (P : Program) (w : World) (K : Fg) (mg : Str → Option Value) (base : Heap) (ct : Nat → Addr × List Str) (k c : Nat) (m : Str) (fn : DL) : Prop := ∃ f fd ps, FnOk P w K mg base CX0 k f fd ps (spD0 ⟨K, ct⟩ fn) ∧ BMeth K (ct c).1 m f ∧ Binds K fd ps []
def TxB (K : Fg) (C : Addr) (m qual : Str) (st : Stmt) (ps : List Str) : Prop := ∃ f fd, Fun K m qual st f fd ∧ BMeth K C m f ∧ Binds K fd ps []
theorem TxB.m {K : Fg} {C : Addr} {m qual : Str} {st : Stmt} {ps : List Str} (T : TxB K C m qual st ps) : TxM K C m qual st ps := by
  obtain ⟨f, fd, F, b, hb⟩ := T
  exact ⟨f, fd, F, b.mt, hb⟩
section
variable {P : Program} {w : World} {K : PySem.W.Frag} {mg : Str → Option Value} {base : Heap} {ct : Nat → Addr × List Str}
theorem methdb_mk {c : Nat} {m qual : Str} {st : Stmt} {N ps : List Str} {k : Nat} {d : DS} (T : TxB K (ct c).1 m qual st ps) (S : FnScope N ps (defScope st))
    (h : ∀ (f : Addr) (cdv : Value) (A : Around) (outer : List Env) (s : Shared) (H : Hp) (E : XK), Room k (A.deeper (envOfC qual (defScope st) s.heap.objs.size f cdv)) → PSsd (cxOf CX0 P w K mg base N qual (defScope st) f cdv A outer s H E).nox ct E0 (defBody st) d) :
    MethDB P w K mg base ct (k + 1) c m (dDef ps.length N.length d) := by
  obtain ⟨f, fd, F, hm, hb⟩ := T
  exact ⟨f, fd, ps, fn_d F S (h f), hm, hb⟩
theorem MethDB.m {k c : Nat} {x : Str} {fn : DL} (F : MethDB P w K mg base ct k c x fn) : MethD P w K mg base ct k c x fn := by
  obtain ⟨f, fd, ps, h1, h2, h3⟩ := F
  exact ⟨f, fd, ps, h1, h2.mt, h3⟩
theorem MethDB.mono {j k c : Nat} {x : Str} {fn : DL} (F : MethDB P w K mg base ct j c x fn) (h : j ≤ k) : MethDB P w K mg base ct k c x fn := by
  obtain ⟨f, fd, ps, h1, h2⟩ := F
  exact ⟨f, fd, ps, h1.mono h, h2⟩
end
def tMethAny (K : Fg) (C : Addr) (m : Str) (g : Addr) (sp : Sp) (E : XK) (ta te : TE) : TE := fun σ H Q => ta σ H fun x H1 => ∃ a dx fs, x = V.ref a ∧ H1 a = some (.ins C dx fs) ∧ fs.lookup m = none ∧
  ∀ q, H1 q = none → te σ (upd H1 q (.met g a)) fun y H2 => ∃ b vs, y = V.ref b ∧ (SqT K H2 b vs ∨ SqL K H2 b vs) ∧ H2 q = some (.met g a) ∧ sp (.ref a :: vs) H2 Q E
theorem pe_methAny {X : Cx} {k : Nat} {C g : Addr} {m : Str} {sp : Sp} {E : XK} {o e : Expr} {ta te : TE} {p apos pos : Pos} (he : PE X o ta) (c : Cls X.K C) (b : BMeth X.K C m g) (F : FnR X.prog X.w X.K X.mg X.base CX0 k g sp) (hr : Room k X.A)
    (hx : Passes CX0 X E) (ha : PE X e te) (hbase : attributeBase o m X.env (eval o X.env) = eval o X.env) : PE X (.Call (.Attribute o m apos) [.Starred e p] [] pos) (tMethAny X.K C m g sp E ta te) := by
  refine ⟨fun pins s σ H Q I h => starcall_of hbase (thn (he.run pins s σ H _ I h) fun u t1 ⟨x, H1, I1, rx, a, dx, fs, ex, ea, l, q⟩ => ?_)⟩
  subst ex
  cases (show u = Value.ref a from rx)
  refine getbound_ok I1 ea c b l fun q1 t2 hq1 I2 => PySem.W.ks_call (P := PySem.W.MethP X.K q1 g (.ref a)) rfl (PySem.W.keeps_M b.fi) (PySem.W.ks_lone (thn (ha.run pins t2 σ _ _ I2 (q q1 hq1)) fun v t3 ⟨y, H2, I3, ry, bb, vs, ey, hb, hm, hsp⟩ => ?_))
  subst ey
  cases (show v = Value.ref bb from ry)
  refine StX.star_any I3 hb fun us t4 I4 rv => ⟨met_P I4 hm, wpAny_call (PySem.W.method_call (met_P I4 hm).1 (run_fnR (us := Value.ref a :: us) (vs := V.ref a :: vs) F hr hx I4 (.cons rfl rv) hsp))⟩
def itemsE (h : EH) : EV → Option (List EV)
  | .tup ys => some ys
  | .ref n => lstAt h n
  | _ => none
def dMethS (c : Nat) (fn : DL) (o e : DE) : DE := fun es h => (o es h).bind fun x h1 => match x with
  | .ref n => match objAt c h1 n with
    | some _ => (e es h1).bind fun y h2 => match itemsE h2 y with
      | some ys => (fn (.ref n :: ys) h2).noer
      | none => .no
    | none => .no
  | _ => .no
def dMethSB (c : Nat) (fn : DL) (o e1 e2 : DE) : DE := fun es h => (o es h).bind fun x h1 => match x with
  | .ref n => match objAt c h1 n with
    | some _ => (e1 es h1).bind fun y1 h2 => (e2 es h2).bind fun y h3 => match itemsE h3 y with
      | some ys => (fn (.ref n :: y1 :: ys) h3).noer
      | none => .no
    | none => .no
  | _ => .no
theorem items_of {G : Gx} {ρ : Rho} {H : Hp} {eh : EH} (hr : HR G ρ H eh) {y : EV} {v : V} {ys : List EV} (hv : VR G.K ρ H y v) (h : itemsE eh y = some ys) : ∃ b vs, v = .ref b ∧ (SqT G.K H b vs ∨ SqL G.K H b vs) ∧ VRs G.K ρ H ys vs := by
  unfold itemsE at h
  split at h
  · cases h
    obtain ⟨a, vs, rfl, h2, h3⟩ := vr_tup.mp hv
    exact ⟨a, vs, rfl, .inl (SqT.of h2), h3⟩
  · obtain ⟨a, vs, g1, g2, g3⟩ := lst_of hr h
    obtain ⟨a', q1, rfl⟩ := vr_ref.mp hv
    rw [g1] at q1; cases q1
    exact ⟨a, vs, rfl, .inr g2, g3⟩
  · cases h
section
variable {X : Cx} {ct : Nat → Addr × List Str} {E : XK} {e e1 e2 o : Expr} {pos p apos : Pos} {d de d1 d2 : DE} {m : Str}
theorem xe_methSB (c : Nat) {k : Nat} {fn : DL} (hc : Cd X.K (ct c)) (F : MethDB X.prog X.w X.K X.mg X.base ct k c m fn) (hr : Room k X.A) (hn : m ∉ (ct c).2) (ho : PEd X ct E o d) (h1 : PEd X ct E e1 d1) (h2 : PEd X ct E e2 d2)
    (hbase : attributeBase o m X.env (eval o X.env) = eval o X.env := by rfl) (hst : starEach [e1, .Starred e2 p] X.env = [(false, eval e1 X.env), (true, eval e2 X.env)] := by rfl) :
    PEd X ct E (.Call (.Attribute o m apos) [e1, .Starred e2 p] [] pos) (dMethSB c fn d d1 d2) := by
  obtain ⟨f, fd, ps, hF, hm, hb⟩ := F
  obtain ⟨t, a1, a2⟩ := ho
  obtain ⟨u1, b1, b2⟩ := h1
  obtain ⟨u2, c1, c2⟩ := h2
  refine ⟨_, pe_methSB a1 hc.cl hm (hF.raw hb .nil) hr pass0 b1 c1 hbase hst, fun ρ σ H es eh Q rel h => ?_⟩
  refine a2.bind rel h fun ρ1 H1 x eh1 v e1 rel1 v1 h1 => ?_
  split at h1
  · rename_i n
    split at h1
    · rename_i fs e3
      obtain ⟨a, dx, l, g1, g2, g3, g4, g5, g6, g7⟩ := obj_of rel1.hr e3
      have v1' := v1
      obtain ⟨a', q1, rfl⟩ := vr_ref.mp v1
      rw [g1] at q1; cases q1
      refine ⟨a, dx, l, rfl, g3, g7 m hn, fun q hq => ?_⟩
      have es0 : Ext X.K ρ1 ρ1 H1 (upd H1 q (.met f a)) := Ext.side _ hq
      have hr0 := rel1.hr.side (HO.met f a) hq
      have hnq := rel1.hr.fresh hq
      have w1 := h1.mono es0
      refine b2.bind (rel1.ext es0 hr0) w1 fun ρ2 H2 y1 eh2 u e2 rel2 v2 h2 => ?_
      refine c2.bind rel2 h2 fun ρ3 H3 y eh3 u3 e4 rel3 v3 h3 => ?_
      split at h3
      · rename_i ys hys
        obtain ⟨b, vs, rfl, j1, j2⟩ := items_of rel3.hr v3 hys
        refine ⟨b, vs, rfl, j1, (e2.trans e4).rest _ _ upd_same (fun _ z => nomatch z) hnq, ρ3, .ref n :: y1 :: ys, eh3, ?_, rel3.hr, wr_noer h3⟩
        rw [List.append_nil]
        exact vrs_cons.mpr ⟨.ref a, _, rfl, VR.mono (es0.trans (e2.trans e4)) _ _ v1', vrs_cons.mpr ⟨u, vs, rfl, v2.mono e4, j2⟩⟩
      · exact h3.elim
    · exact h1.elim
  · exact h1.elim
theorem xe_methS (c : Nat) {k : Nat} {fn : DL} (hc : Cd X.K (ct c)) (F : MethDB X.prog X.w X.K X.mg X.base ct k c m fn) (hr : Room k X.A) (hn : m ∉ (ct c).2) (ho : PEd X ct E o d) (h1 : PEd X ct E e de)
    (hbase : attributeBase o m X.env (eval o X.env) = eval o X.env := by rfl) : PEd X ct E (.Call (.Attribute o m apos) [.Starred e p] [] pos) (dMethS c fn d de) := by
  obtain ⟨f, fd, ps, hF, hm, hb⟩ := F
  obtain ⟨t, a1, a2⟩ := ho
  obtain ⟨u1, b1, b2⟩ := h1
  refine ⟨_, pe_methAny a1 hc.cl hm (hF.raw hb .nil) hr pass0 b1 hbase, fun ρ σ H es eh Q rel h => ?_⟩
  refine a2.bind rel h fun ρ1 H1 x eh1 v e1 rel1 v1 h1 => ?_
  split at h1
  · rename_i n
    split at h1
    · rename_i fs e3
      obtain ⟨a, dx, l, g1, g2, g3, g4, g5, g6, g7⟩ := obj_of rel1.hr e3
      have v1' := v1
      obtain ⟨a', q1, rfl⟩ := vr_ref.mp v1
      rw [g1] at q1; cases q1
      refine ⟨a, dx, l, rfl, g3, g7 m hn, fun q hq => ?_⟩
      have es0 : Ext X.K ρ1 ρ1 H1 (upd H1 q (.met f a)) := Ext.side _ hq
      have hr0 := rel1.hr.side (HO.met f a) hq
      have hnq := rel1.hr.fresh hq
      have w1 := h1.mono es0
      refine b2.bind (rel1.ext es0 hr0) w1 fun ρ2 H2 y eh2 u e2 rel2 v2 h2 => ?_
      split at h2
      · rename_i ys hys
        obtain ⟨b, vs, rfl, j1, j2⟩ := items_of rel2.hr v2 hys
        refine ⟨b, vs, rfl, j1, e2.rest _ _ upd_same (fun _ z => nomatch z) hnq, ρ2, .ref n :: ys, eh2, ?_, rel2.hr, wr_noer h2⟩
        · rw [List.append_nil]
          exact vrs_cons.mpr ⟨.ref a, _, rfl, VR.mono (es0.trans e2) _ _ v1', j2⟩
      · exact h2.elim
    · exact h1.elim
  · exact h1.elim
end
section
variable {X : Cx} {ct : Nat → Addr × List Str} {E : XK} {elt tg iter c : Expr} {scope : Scope} {pos : Pos} {di : DI} {dg : DG} {dt : DT} {de : DE}
theorem xe_lcg (own : List (Str × Nat)) {g : TG} (hc : X.calm = true) (hN : X.N.Nodup) (hi : PId X ct E tg iter di) (he : InBlk X scope fun Y => PEd Y ct E elt de) (hg : InBlk X scope fun Y => PG Y tg g) (hg2 : SndG ⟨X.K, ct⟩ E g dg) (ho : OnlyIn g (own.map (·.2)))
    (ok : blkC X.N X.env.scope scope own = true := by kernel_rfl) (hs : ∀ x, foldedSetIterable iter X.env x = pure x := by intro _; rfl) :
    PEd X ct E (.ListComp elt [⟨tg, iter, [], 0⟩] scope pos) (dLc di dg dYes de (own.map (·.2))) := by
  obtain ⟨wi, i1, i2⟩ := hi
  exact ⟨_, pe_lc (own := own) hc hN i1 (blkOk_by ok) hg (fun _ _ _ _ _ => pts_nil) (fun s H C cl fp => (he s H C cl fp).can) hs, snd_lc i2 hg2 ho snd_yes snd_tE⟩
theorem xe_lcgi (own : List (Str × Nat)) {g : TG} (hc : X.calm = true) (hN : X.N.Nodup) (hi : PId X ct E tg iter di) (ht : InBlk X scope fun Y => PTd Y ct E c dt) (he : InBlk X scope fun Y => PEd Y ct E elt de) (hg : InBlk X scope fun Y => PG Y tg g) (hg2 : SndG ⟨X.K, ct⟩ E g dg) (ho : OnlyIn g (own.map (·.2)))
    (ok : blkC X.N X.env.scope scope own = true := by kernel_rfl) (hs : ∀ x, foldedSetIterable iter X.env x = pure x := by intro _; rfl) :
    PEd X ct E (.ListComp elt [⟨tg, iter, [c], 0⟩] scope pos) (dLc di dg dt de (own.map (·.2))) := by
  obtain ⟨wi, i1, i2⟩ := hi
  exact ⟨_, pe_lc (own := own) hc hN i1 (blkOk_by ok) hg (fun s H C cl fp => pts_one (ht s H C cl fp).can) (fun s H C cl fp => (he s H C cl fp).can) hs, snd_lc i2 hg2 ho snd_tT snd_tE⟩
end
def dNoE : DE := fun _ _ => .no
theorem xe_no {X : Cx} {ct : Nat → Addr × List Str} {E : XK} {e : Expr} : PEd X ct E e dNoE := ⟨fun _ _ _ => False, ⟨fun _ _ _ _ _ _ h => h.elim⟩, fun _ _ _ _ _ _ _ h => h⟩
end EE
set_option Elab.async false
set_option linter.all false
set_option maxRecDepth 100000
set_option maxHeartbeats 1000000
namespace EE
open PySem PySem.Spec PyProof.Rows L2 SrtO Srt
def rSortP (K : Fg) : List V → Hp → VK → Prop := fun vs H Q => ∃ (a : Addr) (bs : List Addr), vs = [V.ref a] ∧ SqL K H a (bs.map V.ref) ∧ (∀ b ∈ bs, ∃ i j : Int, H b = some (.tup [.int i, .int j])) ∧
  ∀ (ys : List Addr) (p : Addr), ys.Perm bs → (ys.map (pairAt H)).Pairwise (fun p q => lexLe p q = true) → H p = none → Q (.ref p) (upd H p (.lst (ys.map V.ref)))
section
variable {X : Cx}
theorem call_sortedP : CallR X (.builtin "sorted") (rSortP X.K) := by
  intro pins s σ H vs us Q I r h
  obtain ⟨a, bs, rfl, hs, hp, q⟩ := h
  obtain ⟨its, rv, hl, hz⟩ := I.list hs
  rw [Vals.ref1 r]
  have ei := refs_at rv
  subst ei
  rw [List.length_map] at hz
  have hpair : ∀ v ∈ bs.map Value.ref, IsPair s.heap v (pv H v).1 (pv H v).2 := fun v hv => by
    obtain ⟨b, hb, rfl⟩ := List.mem_map.mp hv
    obtain ⟨i, j, hHb⟩ := hp b hb
    have epv : pv H (.ref b) = (i, j) := by
      show pairAt H b = (i, j)
      unfold pairAt
      rw [hHb]
    rw [epv]
    obtain ⟨_, its2, r2, o2, ho2, hc2, n2, hd2⟩ := I.hok b _ hHb
    obtain ⟨w1, w2, rfl, k1, k2⟩ := vals2 r2
    obtain ⟨t1, rfl⟩ := k1
    obtain ⟨t2, rfl⟩ := k2
    exact ⟨b, o2, t1, t2, n2, rfl, ho2, hc2, hd2⟩
  refine SrtO.sorted_ord (SrtO.swo_lex fun u => pv H u) hl.isList (by rw [List.length_map]; exact hz) (fun h2 h1 a' e keep => SrtO.pairs_sortableO (by omega) (fun v hv => (hpair v hv).keeps fun b o hb _ => (keep b o hb).2) fun o eo => ?_) fun out h1 h2 => ?_
  · have e' : some o = some (seqObj "list" (bs.map Value.ref).toArray 0) := eo.symm.trans e
    cases e'
    intro c
    exact absurd (Value.type.inj c) (by decide)
  · obtain ⟨ep, he'⟩ := PyProof.Rows.sortedAll_at s.heap (bs.map Value.ref) out.toArray
    obtain ⟨ys, hys⟩ : ∃ ys : List Addr, out = ys.map Value.ref := by
      refine ⟨out.map fun v => match v with | .ref b => b | _ => 0, ?_⟩
      rw [List.map_map]
      refine (List.map_id' out).symm.trans (List.map_congr_left fun v hv => ?_)
      obtain ⟨b, _, rfl⟩ := List.mem_map.mp (h2.perm.mem_iff.mp hv)
      rfl
    have hperm : ys.Perm bs := by
      have h3 := h2.perm
      rw [hys] at h3
      have h4 := h3.map fun v => match v with | .ref b => b | _ => 0
      rw [List.map_map, List.map_map] at h4
      have e3 : ∀ l : List Addr, l.map ((fun v => match v with | Value.ref b => b | _ => 0) ∘ Value.ref) = l := fun l => by
        rw [show ((fun v => match v with | Value.ref b => b | _ => 0) ∘ Value.ref) = id from rfl, List.map_id]
      rw [e3, e3] at h4
      exact h4
    have hsort : (ys.map (pairAt H)).Pairwise (fun p q => lexLe p q = true) := by
      rw [List.pairwise_map]
      have h3 := h1
      rw [hys] at h3
      refine (List.pairwise_map.mp h3).imp fun {x y} hxy => ?_
      have hxy : lexB (pairAt H y) (pairAt H x) = false := hxy
      unfold lexLe
      rw [hxy]
      rfl
    have hlen : (ys.map V.ref).length ≤ sizeLine := by
      rw [List.length_map, hperm.length_eq]
      exact hz
    exact ⟨.ref _, upd H (s.heap.objs.size + 1) (.lst (ys.map V.ref)), I.laid (t' := s.toks) (fun _ _ => PyProof.Rows.sortedAll_old) (Nat.le_succ _) ⟨hlen, out, ep, by rw [hys]; exact vals_refs ys, he'⟩, rfl, q ys _ hperm hsort (I.hok.fresh (Nat.le_succ _))⟩
end
def fSortP : DL := fun xs h => match xs with
  | [.ref n] => match lstAt h n with
    | some ys => match pairsE ys with
      | some l => .ok (.ref h.length) (h ++ [.lst ((psort l).map pairE)])
      | none => .no
    | none => .no
  | _ => .no
theorem pairs_refs {K : Fg} {ρ : Rho} {H : Hp} : ∀ {l : List (Int × Int)} {vs : List V}, VRs K ρ H (l.map pairE) vs → ∃ bs : List Addr, vs = bs.map V.ref ∧ bs.map (pairAt H) = l ∧ (∀ b ∈ bs, ∃ i j : Int, H b = some (.tup [.int i, .int j])) ∧ ∀ b ∈ bs, VR K ρ H (pairE (pairAt H b)) (.ref b)
  | [], vs, h => by
    rw [vrs_nil.mp h]
    exact ⟨[], rfl, rfl, fun b hb => absurd hb (by simp), fun b hb => absurd hb (by simp)⟩
  | p :: l, vs, h => by
    obtain ⟨v, r, rfl, h1, h2⟩ := vrs_cons.mp h
    obtain ⟨bs, rfl, k1, k2, k3⟩ := pairs_refs h2
    have h1' := h1
    obtain ⟨a, ws, rfl, hb, hw⟩ := vr_tup.mp h1
    obtain ⟨w1, w2, rfl, q1, q2⟩ := vrs_two hw
    rw [vr_int.mp q1, vr_int.mp q2] at hb
    have e : pairAt H a = p := by
      unfold pairAt
      rw [hb]
    refine ⟨a :: bs, rfl, by rw [List.map_cons, k1, e], fun b hb' => ?_, fun b hb' => ?_⟩
    · rcases List.mem_cons.mp hb' with z | z
      · subst z
        exact ⟨_, _, hb⟩
      · exact k2 b z
    · rcases List.mem_cons.mp hb' with z | z
      · subst z
        rw [e]
        exact h1'
      · exact k3 b z
section
variable {X : Cx} {ct : Nat → Addr × List Str} {E : XK} {G : Gx}
theorem c_sortP : Cld X ct E (.builtin "sorted") fSortP := ⟨_, call_sortedP, fun ρ H eh xs as Q hr hx h => by
  unfold fSortP at h
  split at h
  · rename_i n
    split at h
    · rename_i ys e1
      split at h
      · rename_i l e2
        obtain ⟨v, rfl, hv⟩ := vrs_one hx
        obtain ⟨a, vs, g1, g2, g3⟩ := lst_of hr e1
        obtain ⟨a', q1, rfl⟩ := vr_ref.mp hv
        rw [g1] at q1; cases q1
        rw [pairsE_eq e2] at g3
        obtain ⟨bs, rfl, k1, k2, k3⟩ := pairs_refs g3
        refine ⟨a, bs, rfl, g2, k2, fun zs p hp hs hn => ?_⟩
        have e3 : zs.map (pairAt H) = psort l := by
          refine psort_eq ?_ hs
          rw [← k1]
          exact hp.map _
        have hv := vrs_pairs (K := X.K) (ρ := ρ) fun b hb => k3 b (hp.mem_iff.mp hb)
        rw [e3] at hv
        exact new_lst hr hv h p hn
      · exact h.elim
    · exact h.elim
  · exact h.elim⟩
end
end EE
set_option Elab.async false
set_option linter.all false
set_option maxRecDepth 100000
set_option maxHeartbeats 1000000
namespace EE
open PySem PySem.Spec PyProof.Rows L2
def mExt : EV → DL := fun x xs h => match x, xs with
  | .ref n, [.ref m] => match mutAt h n, mutAt h m with
    | some ys, some zs => if ys.length + zs.length ≤ 100000 then .ok .non (h.set n (.lst (ys ++ zs))) else .no
    | _, _ => .no
  | _, _ => .no
def mClr : EV → DL := fun x xs h => match x, xs with
  | .ref n, [] => match mutAt h n with
    | some _ => .ok .non (h.set n (.lst []))
    | none => .no
  | _, _ => .no
def mRev : EV → DL := fun x xs h => match x, xs with
  | .ref n, [] => match mutAt h n with
    | some ys => .ok .non (h.set n (.lst ys.reverse))
    | none => .no
  | _, _ => .no
def dBM0 (f : EV → DL) (o : DE) : DE := fun es h => (o es h).bind fun x h1 => match x with
  | .ref n => match lstAt h1 n with
    | some _ => f x [] h1
    | none => .no
  | _ => .no
def fMax2 : DL := fun xs h => match xs with
  | [.int i, .int j] => .ok (.int (if j > i then j else i)) h
  | _ => .no
def fMin2 : DL := fun xs h => match xs with
  | [.int i, .int j] => .ok (.int (if j < i then j else i)) h
  | _ => .no
def fMaxL : DL := fun xs h => match xs with
  | [.ref n] => match lstAt h n with
    | some ys => match intsE ys with
      | some (i :: l) => .ok (.int (l.foldl max i)) h
      | _ => .no
    | none => .no
  | _ => .no
def fInt1 : DL := fun xs h => match xs with
  | [.int i] => .ok (.int i) h
  | [.bl b] => .ok (.int (if b then 1 else 0)) h
  | _ => .no
theorem VRs.rev {K : Fg} {ρ : Rho} {H : Hp} : ∀ {xs : List EV} {vs : List V}, VRs K ρ H xs vs → VRs K ρ H xs.reverse vs.reverse
  | [], vs, h => by rw [vrs_nil.mp h]; exact vrs_nil.mpr rfl
  | x :: xs, vs, h => by
    obtain ⟨v, r, rfl, h1, h2⟩ := vrs_cons.mp h
    rw [List.reverse_cons, List.reverse_cons]
    exact h2.rev.append (VRs.one h1)
theorem max_is : ∀ (l : List Int) (i : Int), (l.foldl max i) ∈ i :: l ∧ ∀ y ∈ i :: l, y ≤ l.foldl max i
  | [], i => ⟨by simp, fun y hy => by simp at hy; subst hy; exact Int.le_refl _⟩
  | x :: l, i => by
    have ih := max_is l (max i x)
    rw [List.foldl_cons]
    refine ⟨?_, fun y hy => ?_⟩
    · rcases List.mem_cons.mp ih.1 with z | z
      · rw [z]
        rcases Int.le_total i x with q | q
        · rw [Int.max_eq_right q]; simp
        · rw [Int.max_eq_left q]; simp
      · exact List.mem_cons_of_mem _ (List.mem_cons_of_mem _ z)
    · have h0 := ih.2 (max i x) List.mem_cons_self
      rcases List.mem_cons.mp hy with z | z
      · subst z
        exact Int.le_trans (Int.le_max_left _ _) h0
      · rcases List.mem_cons.mp z with z | z
        · subst z
          exact Int.le_trans (Int.le_max_right _ _) h0
        · exact ih.2 y (List.mem_cons_of_mem _ z)
section
variable {X : Cx} {ct : Nat → Addr × List Str} {E : XK} {G : Gx}
theorem m_ext : Mtd X ct E "list.extend" mExt := ⟨_, mt_extend, fun ρ H eh x a xs as Q hr hx hxs h => by
  unfold mExt at h
  split at h
  · rename_i n m
    split at h
    · rename_i ys zs e1 e2
      split at h
      · rename_i hl
        obtain ⟨a1, vs, g1, g2, g3, g4⟩ := mut_of hr e1
        obtain ⟨a2, us, k1, k2, k3, _⟩ := mut_of hr e2
        obtain ⟨a', q1, rfl⟩ := vr_ref.mp hx
        rw [g1] at q1; cases q1
        obtain ⟨v, rfl, hv⟩ := vrs_one hxs
        obtain ⟨b', q2, rfl⟩ := vr_ref.mp hv
        rw [k1] at q2; cases q2
        obtain ⟨e, hr'⟩ := put_lst hr g4 g2 (g3.append k3)
        exact ⟨a1, a2, vs, us, rfl, rfl, g2, k2, by rw [← g3.length, ← k3.length]; exact sz5 hl, h ρ _ _ e hr' (vr_non.mpr rfl)⟩
      · exact h.elim
    · exact h.elim
  · exact h.elim⟩
theorem m_clr : Mtd X ct E "list.clear" mClr := ⟨_, mt_clear, fun ρ H eh x a xs as Q hr hx hxs h => by
  unfold mClr at h
  split at h
  · rename_i n
    split at h
    · rename_i ys e1
      obtain ⟨a1, vs, g1, g2, g3, g4⟩ := mut_of hr e1
      obtain ⟨a', q1, rfl⟩ := vr_ref.mp hx
      rw [g1] at q1; cases q1
      obtain ⟨e, hr'⟩ := put_lst hr g4 g2 (vrs_nil.mpr rfl : VRs X.K ρ H [] [])
      exact ⟨a1, vs, rfl, vrs_nil.mp hxs, g2, h ρ _ _ e hr' (vr_non.mpr rfl)⟩
    · exact h.elim
  · exact h.elim⟩
theorem m_rev : Mtd X ct E "list.reverse" mRev := ⟨_, mt_reverse, fun ρ H eh x a xs as Q hr hx hxs h => by
  unfold mRev at h
  split at h
  · rename_i n
    split at h
    · rename_i ys e1
      obtain ⟨a1, vs, g1, g2, g3, g4⟩ := mut_of hr e1
      obtain ⟨a', q1, rfl⟩ := vr_ref.mp hx
      rw [g1] at q1; cases q1
      obtain ⟨e, hr'⟩ := put_lst hr g4 g2 g3.rev
      exact ⟨a1, vs, rfl, vrs_nil.mp hxs, g2, h ρ _ _ e hr' (vr_non.mpr rfl)⟩
    · exact h.elim
  · exact h.elim⟩
theorem c_max2 (hc : X.calm = true) : Cld X ct E (.builtin "max") fMax2 := ⟨_, call_max2 hc, fun ρ H eh xs as Q hr hx h => by
  unfold fMax2 at h
  split at h
  · rename_i i j
    obtain ⟨v, w, rfl, hv, hw⟩ := vrs_two hx
    rw [vr_int.mp hv, vr_int.mp hw]
    exact ⟨i, j, rfl, h ρ H _ (Ext.refl _ _ _) hr (vr_int.mpr rfl)⟩
  · exact h.elim⟩
theorem c_min2 (hc : X.calm = true) : Cld X ct E (.builtin "min") fMin2 := ⟨_, call_min2 hc, fun ρ H eh xs as Q hr hx h => by
  unfold fMin2 at h
  split at h
  · rename_i i j
    obtain ⟨v, w, rfl, hv, hw⟩ := vrs_two hx
    rw [vr_int.mp hv, vr_int.mp hw]
    exact ⟨i, j, rfl, h ρ H _ (Ext.refl _ _ _) hr (vr_int.mpr rfl)⟩
  · exact h.elim⟩
theorem c_maxL (hc : X.calm = true) : Cld X ct E (.builtin "max") fMaxL := ⟨_, cr_max hc, fun ρ H eh xs as Q hr hx h => by
  unfold fMaxL at h
  split at h
  · rename_i n
    split at h
    · rename_i ys e1
      split at h
      · rename_i i l e2
        obtain ⟨v, rfl, hv⟩ := vrs_one hx
        obtain ⟨a, vs, g1, g2, g3⟩ := lst_of hr e1
        obtain ⟨a', q1, rfl⟩ := vr_ref.mp hv
        rw [g1] at q1; cases q1
        rw [intsE_eq e2] at g3
        rw [VRs.of_ints g3] at g2
        refine ⟨a, i :: l, rfl, g2, by simp, fun m hm hy => ?_⟩
        have k := max_is l i
        have : m = l.foldl max i := Int.le_antisymm (k.2 m hm) (hy _ k.1)
        rw [this]
        exact h ρ H _ (Ext.refl _ _ _) hr (vr_int.mpr rfl)
      · exact h.elim
    · exact h.elim
  · exact h.elim⟩
theorem c_int1 : Cld X ct E (.type "int") fInt1 := ⟨_, call_int1, fun ρ H eh xs as Q hr hx h => by
  unfold fInt1 at h
  split at h
  · rename_i i
    obtain ⟨v, rfl, hv⟩ := vrs_one hx
    rw [vr_int.mp hv]
    exact .inl ⟨i, rfl, h ρ H _ (Ext.refl _ _ _) hr (vr_int.mpr rfl)⟩
  · rename_i b
    obtain ⟨v, rfl, hv⟩ := vrs_one hx
    rw [vr_bl.mp hv]
    exact .inr ⟨b, rfl, h ρ H _ (Ext.refl _ _ _) hr (vr_int.mpr rfl)⟩
  · exact h.elim⟩
abbrev fMax : DL := dLor fMax2 fMaxL
theorem c_max (hc : X.calm = true) : Cld X ct E (.builtin "max") fMax := (c_max2 hc).or (c_maxL hc)
variable {a e : Expr} {da : DE} {dr : DA}
theorem xe_extend {apos cpos : Pos} (ho : PEd X ct E a da) (ha : PAd X ct E [e] dr)
    (hbase : attributeBase a "extend" X.env (eval a X.env) = eval a X.env := by rfl)
    (hfew : ((backTo cpos (starEach [e] X.env)).all (fun x => !x.1) && (backToKw cpos (keywordEach [] X.env)).all (fun x => x.1.isSome)
      && decide ([e].length + ([] : List Keyword).length + (if ([] : List Keyword).isEmpty then 0 else 1) < 30)) = true := by rfl)
    (hline : (apos.endLine == cpos.line) = true := by rfl) (hs : starEach [e] X.env = (false, eval e X.env) :: starEach [] X.env := by rfl) (hplain : (backTo cpos (starEach [] X.env)).any (·.1) = false := by rfl) :
    PEd X ct E (.Call (.Attribute a "extend" apos) [e] [] cpos) (dBM mExt da dr) := xe_bmL PySem.F.plainAttrs_list PySem.F.slot_list_extend PySem.F.type_list_extend m_ext ho ha hbase hfew hline hs hplain
theorem snd_bm0L {r : V → List V → Hp → VK → Prop} {f : EV → DL} {to : TE} {o : DE} (hr : SndM G E r f) (ho : SndE G E to o) : SndE G E (tBM0 G.K "list" r to) (dBM0 f o) := fun ρ σ H es eh Q rel h => by
  refine ho.bind rel h fun ρ1 H1 x eh1 u e1 rel1 v1 h1 => ?_
  cases x with
  | ref n =>
    simp only at h1
    split at h1
    · rename_i ys e2
      obtain ⟨a1, vs, g1, g2, g3⟩ := lst_of rel1.hr e2
      obtain ⟨a', q1, rfl⟩ := vr_ref.mp v1
      rw [g1] at q1; cases q1
      exact ⟨.inl ⟨rfl, vs, g2⟩, hr ρ1 H1 eh1 _ _ [] [] Q rel1.hr v1 (vrs_nil.mpr rfl) h1⟩
    · exact h1.elim
  | _ => exact h1.elim
theorem xe_clear {apos cpos : Pos} (ho : PEd X ct E a da) (hbase : attributeBase a "clear" X.env (eval a X.env) = eval a X.env := by rfl) (hline : (apos.endLine == cpos.line) = true := by rfl) : PEd X ct E (.Call (.Attribute a "clear" apos) [] [] cpos) (dBM0 mClr da) := by
  obtain ⟨r, m1, m2⟩ := m_clr (X := X) (ct := ct) (E := E)
  obtain ⟨t, a1, a2⟩ := ho
  exact ⟨_, pe_bm0 PySem.F.plainAttrs_list PySem.F.slot_list_clear PySem.F.type_list_clear m1 a1 hbase hline, snd_bm0L m2 a2⟩
end
end EE
set_option Elab.async false
set_option linter.all false
set_option maxRecDepth 100000
set_option maxHeartbeats 1000000
namespace EE
open PySem PySem.Spec PyProof.Rows L2
theorem Res.bind_bind {α β γ : Type} (r : Res α) (f : α → EH → Res β) (k : β → EH → Res γ) : (r.bind f).bind k = r.bind fun v h => (f v h).bind k := by cases r <;> rfl
def dPairs : List (DE × DE) → ES → EH → Res (List (EV × EV))
  | [], _, h => .ok [] h
  | p :: r, es, h => (p.1 es h).bind fun x h1 => (p.2 es h1).bind fun y h2 => (dPairs r es h2).bind fun ps h3 => .ok ((x, y) :: ps) h3
def dfoldK : List (EV × EV) → List (EV × EV) → Option (List (EV × EV))
  | acc, [] => some acc
  | acc, p :: r => match dputE false acc p.1 p.2 with
    | some acc' => dfoldK acc' r
    | none => none
def dDisp (ds : List (DE × DE)) : DE := fun es h => (dPairs ds es h).bind fun ps h1 => if ps.length ≤ 15 then match dfoldK [] ps with
  | some kvs => .ok (.ref h1.length) (h1 ++ [.dic false kvs])
  | none => .no else .no
inductive SndPs (G : Gx) (E : XK) : List (TE × TE) → List (DE × DE) → Prop where
  | nil : SndPs G E [] []
  | cons {tk tv : TE} {dk dv : DE} {trs : List (TE × TE)} {ds : List (DE × DE)} (hk : SndE G E tk dk) (hv : SndE G E tv dv) (r : SndPs G E trs ds) : SndPs G E ((tk, tv) :: trs) ((dk, dv) :: ds)
def PR2 (K : Fg) (ρ : Rho) (H : Hp) : List (EV × EV) → List (V × V) → Prop := Paired fun p q => VR K ρ H p.1 q.1 ∧ VR K ρ H p.2 q.2
theorem SndPs.bind0 {G : Gx} {E : XK} {trs : List (TE × TE)} {ds : List (DE × DE)} (h : SndPs G E trs ds) : ∀ {ρ0 ρ : Rho} {σ : L2.St} {H0 H : Hp} {es : ES} {eh : EH} {γ δ : Type} {R2 : Rho → Hp → γ → δ → Prop} {k : List (EV × EV) → EH → Res γ} {Q2 : δ → Hp → Prop} {Kt : List (V × V) → Hp → Prop}, Rel G ρ σ H es eh → Ext G.K ρ0 ρ H0 H →
    wr G R2 ρ0 H0 ((dPairs ds es eh).bind k) Q2 E → (∀ ρ1 H1 ps eh1 us, Ext G.K ρ ρ1 H H1 → Rel G ρ1 σ H1 es eh1 → PR2 G.K ρ1 H1 ps us → wr G R2 ρ0 H0 (k ps eh1) Q2 E → Kt us H1) → tPairs trs σ H Kt := by
  induction h with
  | nil =>
    intro ρ0 ρ σ H0 H es eh γ δ R2 k Q2 Kt rel e0 hw hk
    exact hk ρ H [] eh [] (Ext.refl _ _ _) rel .nil hw
  | cons hk hv r ih =>
    intro ρ0 ρ σ H0 H es eh γ δ R2 k Q2 Kt rel e0 hw hkt
    simp only [dPairs, Res.bind_bind] at hw
    refine hk.bind0 rel e0 hw fun ρ1 H1 x eh1 u e1 rel1 v1 h1 => ?_
    refine hv.bind0 rel1 (e0.trans e1) h1 fun ρ2 H2 y eh2 w e2 rel2 v2 h2 => ?_
    refine ih rel2 ((e0.trans e1).trans e2) h2 fun ρ3 H3 ps eh3 us e3 rel3 v3 h3 => ?_
    exact hkt ρ3 H3 _ eh3 _ ((e1.trans e2).trans e3) rel3 (.cons ⟨(v1.mono e2).mono e3, v2.mono e3⟩ v3) h3
theorem dfoldK_ok {K : Fg} {ρ : Rho} {H : Hp} : ∀ {ps : List (EV × EV)} {us : List (V × V)} {acc out : List (EV × EV)} {la : List (Key × V)}, PR2 K ρ H ps us → KR keyOf (VR K ρ H) acc la → dfoldK acc ps = some out →
    ∃ kvs : List (Key × V), us = kvs.map (fun kv => (kV kv.1, kv.2)) ∧ KR keyOf (VR K ρ H) out (mergeK la kvs)
  | [], us, acc, out, la, hp, hk, h => by
    cases hp
    cases h
    exact ⟨[], rfl, hk⟩
  | p :: ps, us, acc, out, la, hp, hk, h => by
    cases hp with
    | cons hab hr =>
      rename_i b us'
      unfold dfoldK at h
      split at h
      · rename_i acc' e1
        obtain ⟨kk, e2, e3⟩ := Option.map_eq_some_iff.mp e1
        subst e3
        obtain ⟨kvs, q1, q2⟩ := dfoldK_ok hr (hk.put e2 hab.2) h
        refine ⟨(kk, b.2) :: kvs, ?_, q2⟩
        rw [List.map_cons, ← q1, ← keyOf_eq e2 hab.1]
      · cases h
section
variable {X : Cx} {ct : Nat → Addr × List Str} {E : XK} {pos : Pos}
def PPd (X : Cx) (ct : Nat → Addr × List Str) (E : XK) (pos : Pos) (keys : List (Option Expr)) (values : List Expr) (ds : List (DE × DE)) : Prop := ∃ trs, PPs X pos keys values trs ∧ SndPs ⟨X.K, ct⟩ E trs ds
theorem xp_nil : PPd X ct E pos [] [] [] := ⟨_, pps_nil, .nil⟩
theorem xp_cons {k v : Expr} {ks : List (Option Expr)} {vs : List Expr} {dk dv : DE} {ds : List (DE × DE)} (hk : PEd X ct E k dk) (hv : PEd X ct E v dv) (hr : PPd X ct E pos ks vs ds) : PPd X ct E pos (some k :: ks) (v :: vs) ((dk, dv) :: ds) := by
  obtain ⟨t, a1, a2⟩ := hk
  obtain ⟨u, b1, b2⟩ := hv
  obtain ⟨trs, c1, c2⟩ := hr
  exact ⟨_, pps_cons a1 b1 c1, .cons a2 b2 c2⟩
theorem paired_len {α β : Type} {F : α → β → Prop} {l : List α} {m : List β} (h : Paired F l m) : l.length = m.length := Paired.length h
theorem xe_disp {keys : List (Option Expr)} {values : List Expr} {ds : List (DE × DE)} (h : PPd X ct E pos keys values ds) (hall : keys.all (·.isSome) = true := by rfl) (hl : keys.length = values.length := by rfl) (h0 : keys ≠ [] := by decide) (h15 : keys.length ≤ 15 := by decide) :
    PEd X ct E (.Dict keys values pos) (dDisp ds) := by
  obtain ⟨trs, h1, h2⟩ := h
  refine ⟨_, pe_disp h1 hall hl h0 h15, fun ρ σ H es eh Q rel hw => fun p hp => ?_⟩
  have es0 : Ext X.K ρ ρ H (upd H p (.dK [])) := Ext.side _ hp
  have hr0 := rel.hr.side (HO.dK []) hp
  have hnp := rel.hr.fresh hp
  refine h2.bind0 (rel.ext es0 hr0) es0 hw fun ρ1 H1 ps eh1 us e1 rel1 v1 h3 => ?_
  have hD : H1 p = some (.dK []) := e1.rest _ _ upd_same (fun _ z => nomatch z) hnp
  have hn1 : (true, p) ∉ ρ1 := fun hm => by
    rcases e1.new _ hm with z | z
    · exact hnp z
    · obtain ⟨ps, q⟩ := z _ upd_same; cases q
  split at h3
  · rename_i hlen
    split at h3
    · rename_i kvs e2
      obtain ⟨l, q1, q2⟩ := dfoldK_ok (acc := []) (la := []) v1 rfl e2
      refine ⟨hD, l, q1, ?_, ?_⟩
      · have := paired_len v1
        rw [q1, List.length_map] at this
        omega
      · have eb : Ext0 X.K ρ1 ρ1 H1 (upd H1 p (.dK (mergeK [] l))) := ext0_upd2 hD (fun _ z => by cases z) (fun _ _ z => by cases z) pln_dK
        have hr2 : HR ⟨X.K, ct⟩ ρ1 (upd H1 p (.dK (mergeK [] l))) eh1 := rel1.hr.ext eb (fun a ha => upd_ne fun z => hn1 (z ▸ ha)) (tabs_upd rel1.hr.tab fun v hv => by rw [hD] at hv; cases hv; exact pln_dK)
        have et : Ext X.K ρ ρ1 H (upd H1 p (.dK (mergeK [] l))) := (es0.trans e1).mut hp
        have ep : Ext X.K ρ (ρ1 ++ [(true, p)]) H (upd H1 p (.dK (mergeK [] l))) := et.push hp
        have e0 : Ext0 X.K ρ1 (ρ1 ++ [(true, p)]) H1 (upd H1 p (.dK (mergeK [] l))) := ⟨⟨[(true, p)], rfl⟩, eb.tup, eb.frz, eb.xd⟩
        have hr3 := hr2.push (o := .dic false kvs) hn1 rfl ⟨_, upd_same, _, rfl, q2.mono fun x v => VR.mono0 e0 x v⟩
        exact h3 (ρ1 ++ [(true, p)]) _ _ ep hr3 (vr_ref.mpr ⟨p, last_get rel1.hr.len, rfl⟩)
    · exact h3.elim
  · exact h3.elim
end
def dPar3 (i j l : Nat) (a : DA) : DS := fun es h => (a es h).bind fun xs h1 => match xs with
  | [x, y, z] => .ok (.nx (((es.set i (some x)).set j (some y)).set l (some z))) h1
  | _ => .no
section
variable {X : Cx} {ct : Nat → Addr × List Str} {E : XK} {pos : Pos} {a b c : Expr} {dr : DA}
theorem xs_par3 (i j l : Nat) {x y z : Str} {px py pz pt : Pos} {kt k2 pt2} (hc : X.calm = true) (hN : X.N.Nodup) (ha : PAd X ct E [a, b, c] dr) (hw : swappedStores [.Tuple [.Name x px, .Name y py, .Name z pz] kt pt] (.Tuple [a, b, c] k2 pt2) X.env = pure (some [x, y, z]))
    (hi : X.N[i]? = some x := by rfl) (hj : X.N[j]? = some y := by rfl) (hl : X.N[l]? = some z := by rfl) (hij : i ≠ j := by decide) (hil : i ≠ l := by decide) (hjl : j ≠ l := by decide)
    (hx : X.env.scope.names.lookup x = some .local := by rfl) (hy : X.env.scope.names.lookup y = some .local := by rfl) (hz : X.env.scope.names.lookup z = some .local := by rfl)
    (hs : swapsWithSole [.Tuple [.Name x px, .Name y py, .Name z pz] kt pt] (.Tuple [a, b, c] k2 pt2) pos.line X.env = pure false := by rfl) : PSd X ct E (.Assign [.Tuple [.Name x px, .Name y py, .Name z pz] kt pt] (.Tuple [a, b, c] k2 pt2) pos) (dPar3 i j l dr) := by
  obtain ⟨t, a1, a2⟩ := ha
  refine ⟨_, ps_par3 hc hN hi hj hl hij hil hjl hx hy hz a1 hw hs, fun ρ σ H es eh D rel h => ?_⟩
  refine a2.bind rel h fun ρ1 H1 xs eh1 u e1 rel1 v1 h1 => ?_
  split at h1
  · rename_i x y z
    obtain ⟨u1, r1, rfl, q1, v2⟩ := vrs_cons.mp v1
    obtain ⟨u2, u3, rfl, q2, q3⟩ := vrs_two v2
    exact ⟨u1, u2, u3, rfl, h1 ρ1 H1 (.nx _) (Ext.refl _ _ _) rel1.hr (((rel1.sl.set i q1).set j q2).set l q3)⟩
  · exact h1.elim
end
end EE
set_option Elab.async false
set_option linter.all false
set_option maxRecDepth 100000
set_option maxHeartbeats 1000000
namespace EE
open PySem PySem.Spec PyProof.Rows L2
@[irreducible] def whN : Nat := 1000000000
def whGo (t : DT) (b : DS) : Nat → DS
  | 0, _, _ => .no
  | m + 1, es, h => (t es h).bind fun c h1 => if c = true then (b es h1).bind fun f h2 => match f with
      | .nx es2 => whGo t b m es2 h2
      | .ct es2 => whGo t b m es2 h2
      | .bk es2 => .ok (.nx es2) h2
      | .rt v => .ok (.rt v) h2
    else .ok (.nx es) h1
def dWhile (t : DT) (b : DS) : DS := fun es h => whGo t b whN es h
section
variable {X : Cx} {ct : Nat → Addr × List Str} {E : XK} {G : Gx}
theorem snd_while {tt : TT} {tb : TS} {t : DT} {b : DS} (ht : SndT G E tt t) (hb : SndS G E tb b) : SndS G E (tWhile tt tb) (dWhile t b) := fun ρ σ H es eh D rel h => by
  refine ⟨fun m σ' H' => ∃ ρ' es' eh', Ext G.K ρ ρ' H H' ∧ Rel G ρ' σ' H' es' eh' ∧ wr G (RF G) ρ' H' (whGo t b m es' eh') (qD D) E, ⟨whN, ρ, es, eh, Ext.refl _ _ _, rel, h⟩, ?_⟩
  rintro m σ' H' ⟨ρ', es', eh', e', rel', hw⟩
  cases m with
  | zero => exact hw.elim
  | succ m =>
    unfold whGo at hw
    refine ht.bind rel' hw fun ρ1 H1 c eh1 cv e1 rel1 v1 h1 => ?_
    subst v1
    cases c with
    | false => exact iteF (h1 ρ1 H1 (.nx σ') (Ext.refl _ _ _) rel1.hr rel1.sl)
    | true =>
      refine iteT ⟨fun σ2 H2 => ∃ ρ2 es2 eh2, Ext G.K ρ ρ2 H H2 ∧ Rel G ρ2 σ2 H2 es2 eh2 ∧ wr G (RF G) ρ2 H2 (whGo t b m es2 eh2) (qD D) E, fun σ2 H2 q => ⟨m, Nat.lt_succ_self m, q⟩, ?_⟩
      simp only [if_true] at h1
      refine hb.bind rel1 h1 fun ρ5 H5 f eh5 vf e5 hr5 rf h5 => ?_
      have et := (e'.trans e1).trans e5
      cases f with
      | nx es5 =>
        cases vf with
        | nx σ5 => exact ⟨ρ5, es5, eh5, et, ⟨rf, hr5⟩, h5⟩
        | _ => exact rf.elim
      | ct es5 =>
        cases vf with
        | ct σ5 => exact ⟨ρ5, es5, eh5, et, ⟨rf, hr5⟩, h5⟩
        | _ => exact rf.elim
      | bk es5 =>
        cases vf with
        | bk σ5 => exact h5 ρ5 H5 (.nx σ5) (Ext.refl _ _ _) hr5 rf
        | _ => exact rf.elim
      | rt v5 =>
        cases vf with
        | rt u5 => exact h5 ρ5 H5 (.rt u5) (Ext.refl _ _ _) hr5 rf
        | _ => exact rf.elim
theorem xs_while (hp : PassesOwn (model X.prog X.w) X.A X.env X.xe) {c : Expr} {body : List Stmt} {pos : Pos} {dt : DT} {ds : DS} (hc : PTd X ct E c dt) (hb : PSsd X ct E body ds) : PSd X ct E (.While c body [] pos) (dWhile dt ds) := by
  obtain ⟨tc, a1, a2⟩ := hc
  obtain ⟨tb, b1, b2⟩ := hb
  exact ⟨_, ps_while hp a1 b1, snd_while a2 b2⟩
def mPopI : EV → DL := fun x xs h => match x, xs with
  | .ref n, [.int i] => match mutAt h n with
    | some ys => if decide (0 ≤ i) && decide (i < 100000) = true then match ys[i.toNat]? with
        | some y => .ok y (h.set n (.lst (ys.eraseIdx i.toNat)))
        | none => .no
      else .no
    | none => .no
  | _, _ => .no
theorem VRs.erase {K : Fg} {ρ : Rho} {H : Hp} : ∀ {xs : List EV} {vs : List V} (i : Nat), VRs K ρ H xs vs → VRs K ρ H (xs.eraseIdx i) (vs.eraseIdx i)
  | [], vs, i, h => by rw [vrs_nil] at h; subst h; exact vrs_nil.mpr rfl
  | y :: xs, vs, i, h => by
    obtain ⟨u, r, rfl, h1, h2⟩ := vrs_cons.mp h
    cases i with
    | zero => exact h2
    | succ i => exact vrs_cons.mpr ⟨u, r.eraseIdx i, rfl, h1, VRs.erase i h2⟩
theorem m_popI : Mtd X ct E "list.pop" mPopI := ⟨_, mt_popAt, fun ρ H eh x a xs as Q hr hx hxs h => by
  unfold mPopI at h
  split at h
  · rename_i n i
    split at h
    · rename_i ys e1
      split at h
      · rename_i hi
        simp only [Bool.and_eq_true, decide_eq_true_eq] at hi
        split at h
        · rename_i y e2
          obtain ⟨a1, vs, g1, g2, g3, g4⟩ := mut_of hr e1
          obtain ⟨a', q1, rfl⟩ := vr_ref.mp hx
          rw [g1] at q1; cases q1
          obtain ⟨v, rfl, hv⟩ := vrs_one hxs
          rw [vr_int.mp hv]
          obtain ⟨w, w1, w2⟩ := g3.get e2
          have hlt := (List.getElem?_eq_some_iff.mp w1).1
          obtain ⟨e, hr'⟩ := put_lst hr g4 g2 (g3.erase i.toNat)
          refine ⟨a1, vs, i, i.toNat, w, rfl, rfl, g2, by omega, by omega, ?_, w1, h ρ _ _ e hr' (VR.mono e _ _ w2)⟩
          have h0 : ¬ i < 0 := by omega
          have h9 : i < (vs.length : Int) := by omega
          simp [seqIndex?, h0, hi.1, h9]
        · exact h.elim
      · exact h.elim
    · exact h.elim
  · exact h.elim⟩
variable {a e e' : Expr} {da : DE} {dr : DA}
theorem xe_popI {apos cpos : Pos} (ho : PEd X ct E a da) (ha : PAd X ct E [e] dr)
    (hbase : attributeBase a "pop" X.env (eval a X.env) = eval a X.env := by rfl)
    (hfew : ((backTo cpos (starEach [e] X.env)).all (fun x => !x.1) && (backToKw cpos (keywordEach [] X.env)).all (fun x => x.1.isSome)
      && decide ([e].length + ([] : List Keyword).length + (if ([] : List Keyword).isEmpty then 0 else 1) < 30)) = true := by rfl)
    (hline : (apos.endLine == cpos.line) = true := by rfl) (hs : starEach [e] X.env = (false, eval e X.env) :: starEach [] X.env := by rfl) (hplain : (backTo cpos (starEach [] X.env)).any (·.1) = false := by rfl) :
    PEd X ct E (.Call (.Attribute a "pop" apos) [e] [] cpos) (dBM mPopI da dr) := xe_bmL PySem.F.plainAttrs_list PySem.F.slot_list_pop PySem.F.type_list_pop m_popI ho ha hbase hfew hline hs hplain
def rPopK : V → List V → Hp → VK → Prop := fun x xs H Q => ∃ (a : Addr) (kvs : List (Key × V)) (k : Key) (d : V), x = .ref a ∧ xs = [kV k, d] ∧ H a = some (.dK kvs) ∧ (∀ v, valV kvs k = some v → Q v (upd H a (.dK (dropK kvs k)))) ∧ (valV kvs k = none → Q d H)
theorem mt_popK : MtR X "dict.pop" rPopK := by
  intro pins s σ H x xs v us Q I rx rxs h
  obtain ⟨a, kvs, k, d, rfl, rfl, ha, q1, q2⟩ := h
  cases rx
  obtain ⟨u1, u2, rfl, r1, r2⟩ := vals2 rxs
  cases hv : valV kvs k with
  | none => exact d_popD I ha r1 hv fun s' I' => ⟨d, H, I', r2, q2 hv⟩
  | some v0 => exact d_pop I ha r1 hv (.inr ⟨u2, rfl⟩) fun w' s' I' rw' => ⟨v0, _, I', rw', q1 v0 hv⟩
def mPopK : EV → DL := fun x xs h => match x, xs with
  | .ref n, [y, z] => match mdicAt h n, keyOf y with
    | some (false, kvs), some k => match dval keyOf kvs k with
      | some v => .ok v (h.set n (.dic false (ddrop keyOf kvs k)))
      | none => .ok z h
    | _, _ => .no
  | _, _ => .no
theorem m_popK : Mtd X ct E "dict.pop" mPopK := ⟨_, mt_popK, fun ρ H eh x a xs as Q hr hx hxs h => by
  unfold mPopK at h
  split at h
  · rename_i n y z
    split at h
    · rename_i kvs k e1 e2
      obtain ⟨p, u, g1, g2, g3, g4⟩ := mdic_of hr e1
      obtain ⟨l, rfl, hk⟩ := g3
      obtain ⟨p', q1, rfl⟩ := vr_ref.mp hx
      rw [g1] at q1; cases q1
      obtain ⟨v, w, rfl, hv, hw⟩ := vrs_two hxs
      have hkv := keyOf_eq e2 hv
      subst hkv
      have hval := hk.val k
      refine ⟨p, l, k, w, rfl, rfl, g2, fun v0 hv0 => ?_, fun hn => ?_⟩
      · rw [hv0] at hval
        split at h
        · rename_i ve e3
          rw [e3] at hval
          obtain ⟨e, hr'⟩ := put_dic (t := false) (kvs := kvs) (kvs' := ddrop keyOf kvs k) (u' := .dK (dropK l k)) hr g4 g2 ⟨l, rfl, hk⟩ ⟨_, rfl, hk.drop k⟩
          exact h ρ _ _ e hr' (VR.mono e _ _ hval)
        · rename_i e3
          rw [e3] at hval
          exact hval.elim
      · rw [hn] at hval
        split at h
        · rename_i ve e3
          rw [e3] at hval
          exact hval.elim
        · exact h ρ _ _ (Ext.refl _ _ _) hr hw
    · exact h.elim
  · exact h.elim⟩
theorem xe_popK {apos cpos : Pos} (ho : PEd X ct E a da) (ha : PAd X ct E [e, e'] dr)
    (hbase : attributeBase a "pop" X.env (eval a X.env) = eval a X.env := by rfl)
    (hfew : ((backTo cpos (starEach [e, e'] X.env)).all (fun x => !x.1) && (backToKw cpos (keywordEach [] X.env)).all (fun x => x.1.isSome)
      && decide ([e, e'].length + ([] : List Keyword).length + (if ([] : List Keyword).isEmpty then 0 else 1) < 30)) = true := by rfl)
    (hline : (apos.endLine == cpos.line) = true := by rfl) (hs : starEach [e, e'] X.env = (false, eval e X.env) :: starEach [e'] X.env := by rfl) (hplain : (backTo cpos (starEach [e'] X.env)).any (·.1) = false := by rfl) :
    PEd X ct E (.Call (.Attribute a "pop" apos) [e, e'] [] cpos) (dBMD mPopK da dr) := by
  obtain ⟨r, m1, m2⟩ := m_popK (X := X) (ct := ct) (E := E)
  obtain ⟨t, a1, a2⟩ := ho
  obtain ⟨u, b1, b2⟩ := ha
  exact ⟨_, pe_bm PySem.F.plainAttrs_dict PySem.F.slot_dict_pop PySem.F.type_dict_pop m1 a1 b1 hbase hfew hline hs hplain, snd_bmD m2 a2 b2⟩
def rUpdK : V → List V → Hp → VK → Prop := fun x xs H Q => ∃ (a b : Addr) (kvs more : List (Key × V)), x = .ref a ∧ xs = [.ref b] ∧ a ≠ b ∧ H a = some (.dK kvs) ∧ H b = some (.dK more) ∧ kvs.length + more.length ≤ sizeLine ∧ Q .non (upd H a (.dK (mergeK kvs more)))
theorem mt_updK : MtR X "dict.update" rUpdK := by
  intro pins s σ H x xs v us Q I rx rxs h
  obtain ⟨a, b, kvs, more, rfl, rfl, hab, ha, hb, hz, q⟩ := h
  cases rx
  obtain ⟨u1, rfl, r1⟩ := vals1 rxs
  cases r1
  obtain ⟨z, hd, vs, rel, dd⟩ := dk_of I.hok ha
  obtain ⟨z2, hd2, rs, rel2, dd2⟩ := dk_of I.hok hb
  refine call_meetsIn PySem.F.slot_dict_update dd.typeIs PySem.F.entry_dict_update (PySem.F.args_dict_update_2 _ _) (meets_dict_update (mixKind X.prog X.w) a b hab hd2) ⟨vs, rs, dd, dd2, by rw [← rel.length, ← rel2.length]; exact hz, fun h' dd' _ hs => ?_⟩
  have he : ∃ q, h'.get? a = some q := let ⟨q, _, _, hq, _⟩ := dd'; ⟨q, hq⟩
  exact ⟨.non, _, d_write I (by rw [ha]; exact True.intro) hs he (dk_new (Nat.le_trans (length_mergeK more kvs) hz) hd (KV.merge rel2 rel) dd'), rfl, q⟩
theorem KR.merge {R : EV → V → Prop} : ∀ {qs : List (EV × EV)} {m : List (Key × V)} {ps out : List (EV × EV)} {l : List (Key × V)}, KR keyOf R qs m → KR keyOf R ps l → dfoldK ps qs = some out → KR keyOf R out (mergeK l m)
  | [], m, ps, out, l, hq, hp, e => by
    cases hq
    simp only [dfoldK, Option.some.injEq] at e
    subst e
    exact hp
  | q :: qs, m, ps, out, l, hq, hp, e => by
    obtain ⟨k, v, r, rfl, h1, h2, h3⟩ := hq
    have e3 : dputE false ps q.1 q.2 = some (dput keyOf ps k q.1 q.2) := by
      have : dputE false ps q.1 q.2 = (keyOf q.1).map fun k => dput keyOf ps k q.1 q.2 := rfl
      rw [this, h1]
      rfl
    unfold dfoldK at e
    rw [e3] at e
    exact KR.merge (l := putK l k v) h3 (KR.put h1 h2 hp) e
def mUpdK : EV → DL := fun x xs h => match x, xs with
  | .ref n, [.ref m] => if n = m then .no else match mdicAt h n, mdicAt h m with
    | some (false, kvs), some (false, more) => if kvs.length + more.length ≤ 100000 then match dfoldK kvs more with
        | some out => .ok .non (h.set n (.dic false out))
        | none => .no
      else .no
    | _, _ => .no
  | _, _ => .no
theorem m_updK : Mtd X ct E "dict.update" mUpdK := ⟨_, mt_updK, fun ρ H eh x a xs as Q hr hx hxs h => by
  unfold mUpdK at h
  split at h
  · rename_i n m
    split at h
    · exact h.elim
    · rename_i hnm
      split at h
      · rename_i kvs more e1 e2
        split at h
        · rename_i hl
          split at h
          · rename_i out e3
            obtain ⟨p, u, g1, g2, g3, g4⟩ := mdic_of hr e1
            obtain ⟨l, rfl, hk⟩ := g3
            obtain ⟨p2, u2, k1, k2, k3, k4⟩ := mdic_of hr e2
            obtain ⟨l2, rfl, hk2⟩ := k3
            obtain ⟨p', q1, rfl⟩ := vr_ref.mp hx
            rw [g1] at q1; cases q1
            obtain ⟨v, rfl, hv⟩ := vrs_one hxs
            obtain ⟨p', q1, rfl⟩ := vr_ref.mp hv
            rw [k1] at q1; cases q1
            obtain ⟨e, hr'⟩ := put_dic (t := false) (kvs := kvs) (kvs' := out) (u' := .dK (mergeK l l2)) hr g4 g2 ⟨l, rfl, hk⟩ ⟨_, rfl, KR.merge hk2 hk e3⟩
            exact ⟨p, p2, l, l2, rfl, rfl, fun z => hnm (hr.dis _ _ _ (z ▸ g4) k4), g2, k2, by rw [← hk.len, ← hk2.len]; exact sz5 hl, h ρ _ _ e hr' (vr_non.mpr rfl)⟩
          · exact h.elim
        · exact h.elim
      · exact h.elim
  · exact h.elim⟩
theorem xe_updK {apos cpos : Pos} (ho : PEd X ct E a da) (ha : PAd X ct E [e] dr)
    (hbase : attributeBase a "update" X.env (eval a X.env) = eval a X.env := by rfl)
    (hfew : ((backTo cpos (starEach [e] X.env)).all (fun x => !x.1) && (backToKw cpos (keywordEach [] X.env)).all (fun x => x.1.isSome)
      && decide ([e].length + ([] : List Keyword).length + (if ([] : List Keyword).isEmpty then 0 else 1) < 30)) = true := by rfl)
    (hline : (apos.endLine == cpos.line) = true := by rfl) (hs : starEach [e] X.env = (false, eval e X.env) :: starEach [] X.env := by rfl) (hplain : (backTo cpos (starEach [] X.env)).any (·.1) = false := by rfl) :
    PEd X ct E (.Call (.Attribute a "update" apos) [e] [] cpos) (dBMD mUpdK da dr) := by
  obtain ⟨r, m1, m2⟩ := m_updK (X := X) (ct := ct) (E := E)
  obtain ⟨t, a1, a2⟩ := ho
  obtain ⟨u, b1, b2⟩ := ha
  exact ⟨_, pe_bm PySem.F.plainAttrs_dict PySem.F.slot_dict_update PySem.F.type_dict_update m1 a1 b1 hbase hfew hline hs hplain, snd_bmD m2 a2 b2⟩
end
end EE
set_option Elab.async false
set_option linter.all false
set_option maxRecDepth 100000
set_option maxHeartbeats 4000000
namespace TT
open PySem PySem.Spec PyProof.Rows L2
def Rnd (m : Nat) : Prop := m % 2 = 1 ∧ ∀ i j, i ≤ m → j ≤ m → ∃ k, k ≤ m ∧ lcgI m i k = j
theorem rnd_old {m : Nat} (h : MaskOk m) : Rnd m := ⟨mask_odd h, fun _ _ hi hj => lcgI_all h hi hj⟩
def trip : Nat → Nat → List Nat
  | 0, _ => []
  | n + 1, x => x :: trip n ((x * 5 + 1) % 512)
theorem trip_at : ∀ (n x k : Nat), k < n → (trip n x)[k]? = some (lcgI 511 x k) := by
  have back : ∀ (k x : Nat), lcgI 511 ((x * 5 + 1) % 512) k = lcgI 511 x (k + 1) := fun k x => by
    induction k with
    | zero => rfl
    | succ k ih =>
      show (lcgI 511 ((x * 5 + 1) % 512) k * 5 + 1) % 512 = (lcgI 511 x (k + 1) * 5 + 1) % 512
      rw [ih]
  intro n
  induction n with
  | zero => intro x k hk; omega
  | succ n ih =>
    intro x k hk
    cases k with
    | zero => rfl
    | succ k =>
      show (trip n ((x * 5 + 1) % 512))[k]? = _
      rw [ih _ _ (by omega), back]
theorem trip_len : ∀ (n x : Nat), (trip n x).length = n
  | 0, _ => rfl
  | n + 1, x => by
    show (trip n _).length + 1 = n + 1
    rw [trip_len n]
theorem trip_whole : ((List.range 512).all fun j => (trip 512 0).contains j) = true := by decide +kernel
theorem trip_back : lcgI 511 0 512 = 0 := by decide +kernel
theorem rnd_511 : Rnd 511 := by
  have add : ∀ (m x a k : Nat), lcgI m (lcgI m x a) k = lcgI m x (a + k) := fun m x a k => by
    induction k with
    | zero => rfl
    | succ k ih =>
      show (lcgI m (lcgI m x a) k * 5 + 1) % (m + 1) = (lcgI m x (a + k) * 5 + 1) % (m + 1)
      rw [ih]
  have at0 : ∀ j, j ≤ 511 → ∃ k, k ≤ 511 ∧ lcgI 511 0 k = j := fun j hj => by
    have h := List.all_eq_true.mp trip_whole j (List.mem_range.mpr (by omega))
    obtain ⟨k, hk⟩ := List.getElem?_of_mem (List.contains_iff_mem.mp h)
    have kl := (List.getElem?_eq_some_iff.mp hk).1
    rw [trip_len] at kl
    rw [trip_at 512 0 k kl] at hk
    exact ⟨k, by omega, Option.some.inj hk⟩
  refine ⟨rfl, fun i j hi hj => ?_⟩
  obtain ⟨a, ha, rfl⟩ := at0 i hi
  obtain ⟨b, hb, rfl⟩ := at0 j hj
  by_cases c : a ≤ b
  · exact ⟨b - a, by omega, by rw [add, show a + (b - a) = b by omega]⟩
  · refine ⟨512 + b - a, by omega, ?_⟩
    rw [add, show a + (512 + b - a) = 512 + b by omega, ← add, trip_back]
theorem run_at {m : Nat} (R : Rnd m) (h : Int) {j : Nat} (hj : j ≤ m) : ∃ n, n ≤ m + 12 ∧ runI m (SetTable.bits h) n = j := by
  obtain ⟨k, h1, h2⟩ := R.2 _ j (runI_le m (SetTable.bits h) 12) hj
  refine ⟨12 + k, by omega, ?_⟩
  rw [runI_tail (bits_lt h), h2]
theorem step_at {m : Nat} (R : Rnd m) (h : Int) {j : Nat} (hj : j ≤ m) : ∃ k, k < 10 * SetTable.turns m ∧ way m h k = j := by
  obtain ⟨n, h1, h2⟩ := run_at R h hj
  obtain ⟨k, h3, h4⟩ := run_nth m (SetTable.bits h) n
  refine ⟨k, ?_, ?_⟩
  · show k < 10 * (m + 15)
    omega
  · show (nth m _ k).j = j
    rw [h4]; exact h2
theorem way_in {m : Nat} (h : Int) (k : Nat) : way m h k ≤ m := by
  have q : ∀ (n : Nat) (p : SetTable.Probe), p.j + p.more ≤ m → (nth m p n).j ≤ m := fun n p hp => Nat.le_trans (Nat.le_add_right _ _) (nth_in n p hp)
  refine q k _ ?_
  have hi : SetTable.bits h % (m + 1) ≤ m := Nat.le_of_lt_succ (Nat.mod_lt _ (Nat.succ_pos m))
  have := runEnd_bd hi
  show SetTable.bits h % (m + 1) + (SetTable.runEnd m (SetTable.bits h % (m + 1)) - SetTable.bits h % (m + 1)) ≤ m
  omega
structure Plc (t : SetTable) (n : Nat) : Prop where
  ris : Ris t.place.toList
  dm : t.dummies = #[]
  sz : t.place.size = n
  rnd : Rnd t.mask
theorem Plc.free {t : SetTable} {n : Nat} (P : Plc t n) (hn : n ≤ t.mask) (h : Int) : ∃ K, K < 10 * SetTable.turns t.mask ∧ way t.mask h K ∉ t.place.toList ∧ ∀ k, k < K → way t.mask h k ∈ t.place.toList := by
  obtain ⟨j, j1, j2⟩ := st_missing t.place.toList (t.mask + 1) (by rw [Array.length_toList, P.sz]; omega)
  obtain ⟨k, k1, rfl⟩ := step_at P.rnd h (show j ≤ t.mask by omega)
  obtain ⟨K, a, b, c⟩ := st_least (p := fun k => way t.mask h k ∉ t.place.toList) k j2
  exact ⟨K, by omega, b, fun k' hk => Classical.not_not.mp (c k' hk)⟩
theorem Plc.put {t : SetTable} {n j : Nat} (P : Plc t n) (hj : j ∉ t.place.toList) : Plc (t.put j).1 (n + 1) ∧ (t.put j).1.fill = n + 1 ∧ SetTable.below t.place j ≤ n := by
  obtain ⟨c, _, _⟩ := below_cut P.ris j
  rw [P.sz] at c
  have pl := put_place t j
  have ne : t.place[SetTable.below t.place j]? ≠ some j := fun e => hj (List.mem_of_getElem? (by rw [Array.getElem?_toList]; exact e))
  have sz : (t.put j).1.place.size = n + 1 := by
    rw [← Array.length_toList, pl, len_ins _ (by rw [Array.length_toList, P.sz]; exact c), Array.length_toList, P.sz]
  have d := put_dm P.dm j
  refine ⟨⟨ris_insert P.ris ne, d, sz, P.rnd⟩, ?_, c⟩
  show (t.put j).1.place.size + (t.put j).1.dummies.size = n + 1
  rw [sz, d]; rfl
structure Sit (m n : Nat) (o : Array (Option Nat)) : Prop where
  sz : o.size = m + 1
  all : ∀ k, k < n → ∃ j, j ≤ m ∧ oAt o j = some k
  few : ∃ l : List Nat, l.length = n ∧ ∀ j, j ≤ m → oAt o j ≠ none → j ∈ l
theorem sit_one {m n : Nat} {o : Array (Option Nat)} (R : Rnd m) (S : Sit m n o) (hn : n ≤ m) (h : Int) : ∃ j, SetTable.layClean.free m o (SetTable.turns m) (SetTable.bits h % (m + 1)) (SetTable.bits h) = some j ∧ Sit m (n + 1) (o.setIfInBounds j (some n)) := by
  obtain ⟨l, l1, l2⟩ := S.few
  obtain ⟨e, e1, e2⟩ := st_missing l (m + 1) (by omega)
  have e3 : oAt o e = none := Classical.not_not.mp fun z => e2 (l2 e (by omega) z)
  obtain ⟨r, r1, r2⟩ := run_at R h (show e ≤ m by omega)
  have r3 : way m h (off m (SetTable.bits h % (m + 1)) (SetTable.bits h) r) = e := by
    show (nth m _ _).j = e
    rw [nth_off, itL_run, r2]; rfl
  obtain ⟨K, a, b, c⟩ := st_least (p := fun k => oAt o (way m h k) = none) _ (by rw [r3]; exact e3)
  have occ : ∀ k, k < K → (oAt o (way m h k)).isNone = false := fun k hk => by
    have := c k hk
    revert this
    cases oAt o (way m h k) <;> simp
  have fs := free_spec m o (SetTable.turns m) r (SetTable.bits h % (m + 1)) (SetTable.bits h) K (by show r < m + 15; omega) a occ (by rw [show oAt o (nth m (runAt m (SetTable.bits h % (m + 1)) (SetTable.bits h)) K).j = none from b]; rfl)
  refine ⟨_, fs, ?_⟩
  have wl : way m h K ≤ m := way_in h K
  have wo : way m h K < o.size := by rw [S.sz]; omega
  have self := oAt_set_self (owner := o) (some n) wo
  refine ⟨by rw [Array.size_setIfInBounds, S.sz], fun k hk => ?_, way m h K :: l, by rw [List.length_cons, l1], fun j hj z => ?_⟩
  · by_cases q : k = n
    · exact ⟨_, wl, by rw [q]; exact self⟩
    · obtain ⟨j, j1, j2⟩ := S.all k (by omega)
      refine ⟨j, j1, ?_⟩
      rw [oAt_set_ne _ fun y => ?_]
      · exact j2
      · rw [y] at j2
        rw [show oAt o (way m h K) = none from b] at j2
        cases j2
  · by_cases q : j = way m h K
    · rw [q]; exact List.mem_cons_self
    · rw [oAt_set_ne _ q] at z
      exact List.mem_cons_of_mem _ (l2 j hj z)
theorem sit_fold {m : Nat} (R : Rnd m) : ∀ (hs : List Int) (n : Nat) (o : Array (Option Nat)), Sit m n o → n + hs.length ≤ m → ∃ o', hs.foldl (stepF m) (some (o, n)) = some (o', n + hs.length) ∧ Sit m (n + hs.length) o'
  | [], n, o, S, _ => ⟨o, rfl, S⟩
  | h :: hs, n, o, S, hl => by
    rw [List.length_cons] at hl
    obtain ⟨j, e, S1⟩ := sit_one R S (by omega) h
    obtain ⟨o', f, S2⟩ := sit_fold R hs (n + 1) _ S1 (by omega)
    rw [show n + 1 + hs.length = n + (h :: hs).length by rw [List.length_cons]; omega] at f S2
    refine ⟨o', ?_, S2⟩
    rw [List.foldl_cons, stepF_some e, f]
theorem laid {t : SetTable} {hs : Array Int} {wanted M : Nat} (R : Rnd M) (hw : SetTable.sizeAbove wanted - 1 = M) (hn : hs.size ≤ M) : ∃ t' order, t.relaid hs wanted = some (t', order) ∧ order.toList.Perm (List.range hs.size) ∧ Plc t' hs.size ∧ t'.mask = M ∧ t'.led = t.led ∧ t'.plain = t.plain := by
  have S0 : Sit M 0 (Array.replicate (M + 1) none) := ⟨by simp, fun k hk => by omega, [], rfl, fun j hj z => absurd (oAt_init hj) z⟩
  obtain ⟨o, f, S⟩ := sit_fold R hs.toList 0 _ S0 (by rw [Array.length_toList]; omega)
  have el : 0 + hs.toList.length = hs.size := by rw [Array.length_toList]; omega
  rw [el] at f S
  have lc : SetTable.layClean M hs = some o := by rw [layClean_eq, f]; rfl
  obtain ⟨q1, q2⟩ := ris_live (fun j => o.getD j none) (List.range (M + 1)) List.pairwise_lt_range
  obtain ⟨l, l1, l2⟩ := S.few
  have nd : ((liveOf M o).map (·.1)).Nodup := List.Pairwise.imp (fun h => Nat.ne_of_lt h) q1
  have up : (liveOf M o).length ≤ hs.size := by
    have := nat_nodup_len _ l nd fun x hx => by
      obtain ⟨⟨y, k⟩, hq, rfl⟩ := List.mem_map.mp hx
      obtain ⟨b1, b2⟩ := (mem_live S.sz).1 hq
      exact l2 y b1 (by rw [b2]; simp)
    rw [List.length_map] at this
    omega
  have ins : ∀ k, k < hs.size → k ∈ (liveOf M o).map (·.2) := fun k hk => by
    obtain ⟨j, j1, j2⟩ := S.all k hk
    exact List.mem_map.mpr ⟨(j, k), (mem_live S.sz).2 ⟨j1, j2⟩, rfl⟩
  have dn := nat_nodup_len (List.range hs.size) _ List.nodup_range fun k hk => ins k (List.mem_range.mp hk)
  rw [List.length_range, List.length_map] at dn
  refine ⟨tabOf t M o, ((liveOf M o).map (·.2)).toArray, ?_, ?_, ⟨q1, rfl, ?_, R⟩, rfl, rfl, rfl⟩
  · rw [relaid_eq, hw, lc]; rfl
  · exact perm_range hs.size _ (by show ((liveOf M o).map (·.2)).length = _; rw [List.length_map]; omega) ins
  · show ((liveOf M o).map (·.1)).toArray.size = _
    rw [List.size_toArray, List.length_map]
    omega
end TT
set_option Elab.async false
set_option linter.all false
set_option maxRecDepth 100000
set_option maxHeartbeats 4000000
namespace TT
open PySem PySem.Spec PyProof.Rows L2
section
variable {P : Program} {w : World} {A : Around} {E : Value → Shared → Prop} {s : Shared}
structure Bag (P : Program) (w : World) (g : Heap) (a : Addr) (B : List (Addr × List Int)) (rs : Array (Int × Value)) (ep : Nat) (t : SetTable) : Prop where
  obj : ∃ o, g.get? a = some o ∧ o.ExactSet ∧ o.data = .set rs ep t
  rows : rs.toList = rowsOf P w B
  plc : Plc t B.length
  one : (B.map (·.2)).Nodup
  tup : ∀ p ∈ B, IsT P w g p.2 p.1
  pl : t.plain = true
  ld : w.params.followText "set-order" = true ∨ t.led = true
  room : B.length * 5 < t.mask * 3
  msk : t.mask = 7 ∨ t.mask = 31 ∨ t.mask = 127 ∨ t.mask = 511
variable {a : Addr} {B : List (Addr × List Int)} {rs : Array (Int × Value)} {ep : Nat} {t : SetTable}
theorem rows_len (h : rs.toList = rowsOf P w B) : rs.size = B.length := by
  rw [← Array.length_toList, h]
  exact List.length_map _
theorem Bag.len (G : Bag P w s.heap a B rs ep t) : rs.size = B.length := rows_len G.rows
theorem fits_of (p : Plc t B.length) (hl : rs.size = B.length) (hr : B.length ≤ t.mask) : t.fits rs.size = true := by
  have e : t.fill = B.length := by
    show t.place.size + t.dummies.size = _
    rw [p.dm, p.sz]; rfl
  unfold SetTable.fits
  rw [e, p.sz, hl]
  simp [hr]
theorem Bag.fits (G : Bag P w s.heap a B rs ep t) : t.fits rs.size = true := fits_of G.plc G.len (by have := G.room; omega)
theorem row_at (h : rs.toList = rowsOf P w B) {i : Nat} {p : Addr × List Int} (hp : B[i]? = some p) : rs[i]? = some (thash P w p.2, Value.ref p.1) := by
  rw [← Array.getElem?_toList, h]
  show (B.map _)[i]? = _
  rw [List.getElem?_map, hp]; rfl
theorem search_new (G : Bag P w s.heap a B rs ep t) {x : Addr} {k : List Int} (hx : IsT P w s.heap k x) (hu : A.units < cLine) (hk : k ∉ B.map (·.2)) {K : Nat} (K1 : K < 10 * SetTable.turns t.mask)
    (K2 : way t.mask (thash P w k) K ∉ t.place.toList) (K3 : ∀ c, c < K → way t.mask (thash P w k) c ∈ t.place.toList) {Q : SetFound → Shared → Prop} (q : Q (.free (way t.mask (thash P w k) K) false) s) :
    ∀ (f c : Nat) (st : Option SetTable.Probe), st.getD (t.probeStart (thash P w k)) = nth t.mask (t.probeStart (thash P w k)) c → c ≤ K → K < c + f → wpAny (model P w) A (setSearchFrom a (.ref x) (thash P w k) true f st) Q E s := by
  obtain ⟨o, ho, hex, hd⟩ := G.obj
  have st0 : t.probeStart (thash P w k) = runAt t.mask (SetTable.bits (thash P w k) % (t.mask + 1)) (SetTable.bits (thash P w k)) := rfl
  intro f
  induction f with
  | zero => intro c st _ h1 h2; omega
  | succ f ih =>
    intro c st hst hc hf
    rw [setSearchFrom_succ]
    refine wpAny_bind (wpAny_setState_of ho hd G.fits ?_)
    dsimp only
    have ng : ¬ t.gaveWay = true := by
      unfold SetTable.gaveWay
      rw [G.plc.rnd.1]
      decide
    refine wp_if_neg ng ?_
    try refine wpAny_bind (wpAny_pure ?_)
    have dn : ∀ (n : Nat) (p : SetTable.Probe), p.dummy = none → (nth t.mask p n).dummy = none := fun n => by
      induction n with
      | zero => exact fun p h => h
      | succ n ih2 => exact fun p h => ih2 (adv t.mask p) (by unfold adv; split <;> exact h)
    have sh : ∀ d, nth t.mask (nth t.mask (t.probeStart (thash P w k)) c) d = nth t.mask (t.probeStart (thash P w k)) (c + d) := fun d => (nth_add t.mask c _ d).symm
    have jw : ∀ d, (nth t.mask (nth t.mask (t.probeStart (thash P w k)) c) d).j = way t.mask (thash P w k) (c + d) := fun d => by rw [sh]; rfl
    have eK : c + (K - c) = K := by omega
    have spec := go_spec t G.plc.ris G.plc.dm (fun i => (rs[i]?.map (·.1)).getD 0) (thash P w k) (10 * SetTable.turns t.mask) (K - c) (nth t.mask (t.probeStart (thash P w k)) c) (dn c _ rfl) (by omega) (fun d hd => by rw [jw]; exact K3 _ (by omega)) (by rw [jw, eK]; exact K2)
    have pe : ∀ r, SetTable.probe.go t (fun i => (rs[i]?.map (·.1)).getD 0) (thash P w k) (10 * SetTable.turns t.mask) (nth t.mask (t.probeStart (thash P w k)) c) = r → t.probe (fun i => (rs[i]?.map (·.1)).getD 0) (thash P w k) (st.getD (t.probeStart (thash P w k))) = r := fun r hr => by
      rw [hst]; exact hr
    rcases spec with ⟨d, i, d1, d2, _, _, d5⟩ | ⟨_, d5⟩
    · rw [pe _ d5]
      dsimp only
      rw [jw] at d2 ⊢
      have il : i < B.length := by
        have := (List.getElem?_eq_some_iff.mp d2).1
        rw [Array.length_toList, G.plc.sz] at this
        exact this
      obtain ⟨p, hp⟩ : ∃ p, B[i]? = some p := ⟨_, List.getElem?_eq_getElem il⟩
      have pm := List.mem_of_getElem? hp
      have ne : p.2 ≠ k := fun z => hk (List.mem_map.mpr ⟨p, pm, z⟩)
      have nb : decide (p.2 = k) = false := decide_eq_false ne
      have rest : wpAny (model P w) A (searchRest a (.ref x) (thash P w k) true f rs t (way t.mask (thash P w k) (c + d)) i (nth t.mask (nth t.mask (t.probeStart (thash P w k)) c) (d + 1))) Q E s := by
        unfold searchRest
        rw [row_at G.rows hp]
        dsimp only
        refine wpAny_bind (wpAny_holding (wpAny_eqBool_tuple hu (G.tup p pm) hx ?_))
        refine wpAny_bind (wpAny_setState_of ho hd G.fits ?_)
        dsimp only
        refine wp_if_neg (by simp [ne]) ?_
        try refine wpAny_bind (wpAny_pure ?_)
        rw [sameMem]
        dsimp only
        have sl : t.slot (way t.mask (thash P w k) (c + d)) = .live i := slot_live G.plc.ris d2
        simp only [if_true, sl, row_at G.rows hp]
        refine wpAny_bind (wpAny_isSame_ref_self (wpAny_bind (wpAny_pure ?_)))
        simp only [if_true]
        refine wp_if_neg (by simp [ne]) ?_
        exact ih (c + (d + 1)) _ (sh (d + 1)) (by omega) (by omega)
      by_cases hl : t.led = true
      · refine wp_if_neg (by simp [hl]) ?_
        try refine wpAny_bind (wpAny_pure ?_)
        exact rest
      · refine wp_if_pos (by simp [hl]) ?_
        refine wpAny_bind (seen_tup hx (fun y hy => ?_) ?_)
        · obtain ⟨e, he, rfl⟩ := List.mem_map.mp hy
          have e2 : e ∈ rs.toList := by
            have : e ∈ rs ∧ e.1 = thash P w k := by simpa using he
            simpa using this.1
          rw [G.rows] at e2
          obtain ⟨p2, hp2, rfl⟩ := List.mem_map.mp e2
          exact ⟨p2.2, p2.1, rfl, G.tup p2 hp2⟩
        · refine wp_if_neg (by decide) ?_
          try refine wpAny_bind (wpAny_pure ?_)
          exact rest
    · rw [pe _ d5]
      dsimp only
      rw [jw, eK]
      exact wpAny_pure q
theorem relay_new {o : Obj} (ho : s.heap.get? a = some o) (hex : o.ExactSet) (hd : o.data = .set rs ep t) (hrows : rs.toList = rowsOf P w B) (p : Plc t B.length) (hfl : B.length ≤ t.mask) (one : (B.map (·.2)).Nodup) (tup : ∀ p ∈ B, IsT P w s.heap p.2 p.1) (pl : t.plain = true)
    (ld : w.params.followText "set-order" = true ∨ t.led = true) {wanted M : Nat} (hw : SetTable.sizeAbove wanted - 1 = M) (R : Rnd M) (hM : M = 31 ∨ M = 127 ∨ M = 511) (hw2 : SetTable.sizeAbove wanted ≤ 512) (hn : B.length * 5 < M * 3) {Q : Unit → Shared → Prop}
    (q : ∀ g' B' rs' ep' t', Heap.SameBut a s.heap g' → Bag P w g' a B' rs' ep' t' → B'.Perm B → Q () { s with heap := g' }) : wpAny (model P w) A (setRelay a wanted) Q E s := by
  have len := rows_len hrows
  obtain ⟨t', ord, e, pm, p', m', l', n'⟩ := laid (t := t) (hs := rs.map (·.1)) R hw (by rw [Array.size_map, len]; omega)
  rw [Array.size_map, len] at pm p'
  obtain ⟨B2, r1, r2, _⟩ := order_rows B rs ord hrows pm
  have len2 := (rows_len r1).trans r2.length_eq
  rw [setRelay_eq]
  refine wpAny_bind (wpAny_setState_of ho hd (fits_of p len hfl) ?_)
  dsimp only
  refine wp_if_neg (by rw [sizeLine_eq]; omega) ?_
  try refine wpAny_bind (wpAny_pure ?_)
  rw [e]
  dsimp only
  refine wpAny_bind ?_
  refine wp_if_neg (by rw [len2, len]; simp) ?_
  try refine wpAny_bind (wpAny_pure ?_)
  refine wpAny_pure ?_
  dsimp only
  have bl := r2.length_eq
  refine wpAny_storeSet_of ho hd ?_ (by rw [len2, sizeLine_eq]; omega)
  have sb : Heap.SameBut a s.heap (s.heap.update a (Obj.putSet (ord.filterMap (rs[·]?)) t')) := Heap.SameBut.update ..
  refine q _ B2 _ (ep + 1) t' sb ⟨⟨_, store_at ho hd, ⟨hex.1, hex.2.1, hex.2.2⟩, rfl⟩, r1, by rw [bl]; exact p', (r2.map (·.2)).nodup_iff.mpr one, fun y hy => isT_same (tup y (r2.mem_iff.mp hy)) ho hd sb, n'.trans pl, by rw [l']; exact ld, by rw [bl, m']; exact hn, by rw [m']; omega⟩ r2
end
end TT
set_option Elab.async false
set_option linter.all false
set_option maxRecDepth 100000
set_option maxHeartbeats 4000000
namespace TT
open PySem PySem.Spec PyProof.Rows L2
theorem wide_5 : SetTable.sizeAbove (SetTable.grown 5) = 32 := by decide +kernel
theorem wide_19 : SetTable.sizeAbove (SetTable.grown 19) = 128 := by decide +kernel
theorem wide_77 : SetTable.sizeAbove (SetTable.grown 77) = 512 := by decide +kernel
section
variable {P : Program} {w : World} {A : Around} {E : Value → Shared → Prop} {s : Shared}
variable {a : Addr} {B : List (Addr × List Int)} {rs : Array (Int × Value)} {ep : Nat} {t : SetTable}
theorem add_new (G : Bag P w s.heap a B rs ep t) {x : Addr} {k : List Int} (hx : IsT P w s.heap k x) (hu : A.units < cLine) (hk : k ∉ B.map (·.2)) (hn : B.length + 1 < 307) {Q : Bool → Shared → Prop}
    (q : ∀ b g' B' rs' ep' t', Heap.SameBut a s.heap g' → Bag P w g' a B' rs' ep' t' → B'.Perm ((x, k) :: B) → Q b { s with heap := g' }) : wpAny (model P w) A (setAddHashed a (.ref x) (thash P w k)) Q E s := by
  obtain ⟨o, ho, hex, hd⟩ := G.obj
  have len := G.len
  have room := G.room
  have msk := G.msk
  obtain ⟨K, K1, K2, K3⟩ := G.plc.free (by omega) (thash P w k)
  have K4 : K < 100000 := by
    have : 10 * SetTable.turns t.mask = 10 * (t.mask + 15) := rfl
    omega
  unfold setAddHashed
  refine wpAny_holding ?_
  rw [show (100000 : Nat) = 99999 + 1 from rfl, setAddHashedIn_succ]
  refine wpAny_bind (wpAny_setState_of ho hd G.fits ?_)
  dsimp only
  refine wp_if_neg (by simp [byScan, Value.scannable]) ?_
  try refine wpAny_bind (wpAny_pure ?_)
  refine wpAny_bind ?_
  unfold setSearch
  refine search_new G hx hu hk K1 K2 K3 ?_ 100000 0 none rfl (Nat.zero_le _) (by omega)
  dsimp only
  refine wpAny_bind (wpAny_setState_of ho hd G.fits ?_)
  dsimp only
  obtain ⟨p1, p2, p3⟩ := G.plc.put K2
  have e0 : (t.put (way t.mask (thash P w k) K)).2 = SetTable.below t.place (way t.mask (thash P w k) K) := rfl
  have e1 : (t.put (way t.mask (thash P w k) K)).1.plain = true := G.pl
  have e2 : (t.put (way t.mask (thash P w k) K)).1.mask = t.mask := rfl
  have e3 : (t.put (way t.mask (thash P w k) K)).1.led = t.led := rfl
  generalize SetTable.below t.place (way t.mask (thash P w k) K) = c at e0 p3
  generalize t.put (way t.mask (thash P w k) K) = pt at e0 e1 e2 e3 p1 p2 ⊢
  obtain ⟨t1, c'⟩ := pt
  dsimp only at e0 e1 e2 e3 p1 p2 ⊢
  subst e0
  first
    | (refine wpAny_bind ?_; refine wp_if_pos e1 ?_; refine hashBy_tup hx ?_)
    | refine wp_if_pos e1 (wpAny_bind (hashBy_tup hx ?_))
  simp only [if_true]
  have rin : (SetTable.insertAt rs c' (thash P w k, Value.ref x)).toList = rowsOf P w (B.take c' ++ (x, k) :: B.drop c') := by
    rw [SetTable.toList_insertAt, rows_put, G.rows]
  have pm := put_perm B c' (x, k)
  have bl : (B.take c' ++ (x, k) :: B.drop c').length = B.length + 1 := pm.length_eq
  have one1 : ((B.take c' ++ (x, k) :: B.drop c').map (·.2)).Nodup := by
    rw [(pm.map (·.2)).nodup_iff]
    exact List.nodup_cons.mpr ⟨hk, G.one⟩
  have len1 := (rows_len rin).trans bl
  generalize SetTable.insertAt rs c' (thash P w k, Value.ref x) = rs1 at rin len1 ⊢
  generalize B.take c' ++ (x, k) :: B.drop c' = B1 at pm bl one1 rin
  refine wpAny_bind (wpAny_storeSet_of ho hd ?_ (by rw [len1, sizeLine_eq]; omega))
  have sb : Heap.SameBut a s.heap (s.heap.update a (Obj.putSet rs1 t1)) := Heap.SameBut.update ..
  have ho1 := store_at (es' := rs1) (t' := t1) ho hd
  generalize s.heap.update a (Obj.putSet rs1 t1) = g1 at sb ho1 ⊢
  have tup1 : ∀ p ∈ B1, IsT P w g1 p.2 p.1 := fun p hp => by
    rcases List.mem_cons.mp (pm.mem_iff.mp hp) with rfl | hp
    · exact isT_same hx ho hd sb
    · exact isT_same (G.tup p hp) ho hd sb
  have ld1 : w.params.followText "set-order" = true ∨ t1.led = true := by rw [e3]; exact G.ld
  have full : t1.tooFull = true ↔ t.mask * 3 ≤ (B.length + 1) * 5 := by
    unfold SetTable.tooFull
    rw [decide_eq_true_eq, p2, e2]
  by_cases hf : t1.tooFull = true
  · first
      | (refine wpAny_bind ?_; refine wp_if_pos (by simp [hf]) ?_)
      | (refine wp_if_pos (by simp [hf]) ?_; refine wpAny_bind ?_)
    have hf2 := full.mp hf
    rw [len]
    have go : ∀ M, SetTable.sizeAbove (SetTable.grown (B.length + 1)) = M + 1 → Rnd M → (M = 31 ∨ M = 127 ∨ M = 511) → (B.length + 1) * 5 < M * 3 → wpAny (model P w) A (setRelay a (SetTable.grown (B.length + 1))) (fun _ s' => wpAny (model P w) A (pure true) Q E s') E { s with heap := g1 } := fun M h1 h2 h3 h4 => by
      refine relay_new (s := { s with heap := g1 }) ho1 ⟨hex.1, hex.2.1, hex.2.2⟩ rfl rin (by rw [bl]; exact p1) (by rw [bl, e2]; omega) one1 tup1 e1 ld1 (by rw [h1]; rfl) h2 h3 (by rw [h1]; omega) (by rw [bl]; exact h4) fun g2 B2 rs2 ep2 t2 sb2 G2 pm2 => ?_
      exact wpAny_pure (q true g2 B2 rs2 ep2 t2 (sb.trans sb2) G2 (pm2.trans pm))
    rcases msk with e | e | e | e
    · have z : B.length = 4 := by rw [e] at hf2 room; omega
      exact go 31 (by rw [z]; exact wide_5) (rnd_old (.inr (.inl rfl))) (.inl rfl) (by omega)
    · have z : B.length = 18 := by rw [e] at hf2 room; omega
      exact go 127 (by rw [z]; exact wide_19) (rnd_old (.inr (.inr rfl))) (.inr (.inl rfl)) (by omega)
    · have z : B.length = 76 := by rw [e] at hf2 room; omega
      exact go 511 (by rw [z]; exact wide_77) rnd_511 (.inr (.inr rfl)) (by omega)
    · exfalso
      rw [e] at hf2
      omega
  · first
      | refine wp_if_neg (by simp [hf]) ?_
      | (refine wpAny_bind ?_; refine wp_if_neg (by simp [hf]) ?_; refine wpAny_pure ?_)
    have hf2 : ¬ t.mask * 3 ≤ (B.length + 1) * 5 := fun z => hf (full.mpr z)
    exact wpAny_pure (q true g1 B1 rs1 (ep + 1) t1 sb ⟨⟨_, ho1, ⟨hex.1, hex.2.1, hex.2.2⟩, rfl⟩, rin, by rw [bl]; exact p1, one1, tup1, e1, ld1, by rw [bl, e2]; omega, by rw [e2]; exact msk⟩ pm)
theorem Bag.keep {g g' : Heap} (G : Bag P w g a B rs ep t) (ha : ∀ o, g.get? a = some o → g'.get? a = some o) (ht : ∀ p ∈ B, IsT P w g' p.2 p.1) : Bag P w g' a B rs ep t := by
  obtain ⟨o, ho, r⟩ := G.obj
  exact { G with obj := ⟨o, ha o ho, r⟩, tup := ht }
theorem bag_new {g : Heap} (ho : g.get? a = some { cls := .type "set", dict := none, data := .set #[] 0 (.fresh 0 0 (!w.params.followText "set-order")) }) : Bag P w g a [] #[] 0 (.fresh 0 0 (!w.params.followText "set-order")) where
  obj := ⟨_, ho, ⟨rfl, rfl, rfl⟩, rfl⟩
  rows := rfl
  plc := ⟨List.Pairwise.nil, rfl, rfl, rnd_old (.inl rfl)⟩
  one := List.nodup_nil
  tup := fun p hp => by cases hp
  pl := rfl
  ld := by
    by_cases c : w.params.followText "set-order" = true
    · exact .inl c
    · refine .inr ?_
      show (!w.params.followText "set-order") = true
      simp [c]
  room := by
    show 0 * 5 < 7 * 3
    omega
  msk := .inl rfl
end
end TT
set_option Elab.async false
set_option linter.all false
set_option maxRecDepth 100000
set_option maxHeartbeats 4000000
namespace TT
open PySem PySem.Spec PyProof.Rows L2
section
variable {P : Program} {w : World} {A : Around} {E : Value → Shared → Prop} {s : Shared}
structure Upto (ks : List (Addr × List Int)) (i : Nat) (B : List (Addr × List Int)) : Prop where
  perm : B.Perm (ks.take i)
theorem upto_next {ks B B' : List (Addr × List Int)} {i : Nat} {p : Addr × List Int} (U : Upto ks i B) (hp : ks[i]? = some p) (pm : B'.Perm (p :: B)) : Upto ks (i + 1) B' :=
  ⟨by
    rw [take_next hp]
    exact pm.trans ((U.perm.cons p).trans (List.perm_append_singleton p _).symm)⟩
theorem fill {I : Addr} {fp wr : List Addr} {G : Array GenState → Array GenState → Prop} {n : Nat} {Pv : Nat → Value → Prop} {St : Nat → Shared → Prop} {R : Result → Shared → Prop}
    (W : WalksS P w A.in1 I fp wr G n Pv St) (S : Addr) (nS : S ∉ fp) (ks : List (Addr × List Int)) (hn : n = ks.length) (few : ks.length < 307) (one : (ks.map (·.2)).Nodup) (val : ∀ i v, Pv i v → ∃ p, ks[i]? = some p ∧ v = .ref p.1)
    (g0 : Heap) (hk : ∀ p ∈ ks, IsT P w g0 p.2 p.1) (z0 : g0.get? S = none) (zw : ∀ b ∈ wr, g0.get? b = none) (hu : A.in1.units < cLine) :
    ∀ (d i : Nat) (s : Shared), i + d = n → St i s → (∀ b o, g0.get? b = some o → s.heap.get? b = some o) → (∃ B rs ep t, Bag P w s.heap S B rs ep t ∧ Upto ks i B) →
      (∀ s' B rs ep t, Moved (S :: wr) G s s' → Bag P w s'.heap S B rs ep t → Upto ks n B → (∀ b o, g0.get? b = some o → s'.heap.get? b = some o) → R (.ok (.ret .none)) s') →
      codeAny (model P w) A (.builtin "set.update.loop" ⟨[.ref S, .ref I], []⟩) R s := by
  have nw : S ∉ wr := fun z => nS (W.sub _ z)
  have more : ∀ b ∈ wr, b ∈ S :: wr := fun b hb => List.mem_cons_of_mem _ hb
  have keep : ∀ {s s' : Shared}, Moved wr G s s' → (∀ b o, g0.get? b = some o → s.heap.get? b = some o) → ∀ b o, g0.get? b = some o → s'.heap.get? b = some o := fun m k b o e =>
    m.heap b o (fun z => by rw [zw b z] at e; cases e) (k b o e)
  have mem : ∀ {i : Nat} {B : List (Addr × List Int)}, Upto ks i B → ∀ p ∈ B, p ∈ ks := fun U p hp => List.mem_of_mem_take (U.perm.mem_iff.mp hp)
  intro d
  induction d with
  | zero =>
    intro i s hi hst k ⟨B, rs, ep, t, hB, U⟩ hR
    obtain rfl : i = n := by omega
    refine codeAny_builtin F.entry_set_update_loop ?_
    rw [Around.under_plainId F.plain_set_update_loop _]
    show wpAny _ A.in1 (pyNext (.ref I) >>= _) _ _ s
    refine wpAny_bind (W.done s _ _ hst fun s' m => ?_)
    have k' := keep m k
    exact wpAny_pure (hR s' B rs ep t (m.mono more) (hB.keep (fun o e => m.heap S o nw e) fun p hp => isT_keep (hk p (mem U p hp)) k') U k')
  | succ d ih =>
    intro i s hi hst k ⟨B, rs, ep, t, hB, U⟩ hR
    refine codeAny_builtin F.entry_set_update_loop ?_
    rw [Around.under_plainId F.plain_set_update_loop _]
    show wpAny _ A.in1 (pyNext (.ref I) >>= _) _ _ s
    refine wpAny_bind (W.item i s _ _ (by omega) hst fun v s' hP hst' m => ?_)
    obtain ⟨p, hp, rfl⟩ := val i v hP
    have k' := keep m k
    have hB' : Bag P w s'.heap S B rs ep t := hB.keep (fun o e => m.heap S o nw e) fun q hq => isT_keep (hk q (mem U q hq)) k'
    have hx : IsT P w s'.heap p.2 p.1 := isT_keep (hk p (List.mem_of_getElem? hp)) k'
    have il := (List.getElem?_eq_some_iff.mp hp).1
    have bl : B.length = i := by rw [U.perm.length_eq, List.length_take]; omega
    have new : p.2 ∉ B.map (·.2) := fun z => by
      rw [(U.perm.map (·.2)).mem_iff] at z
      have nd := one
      rw [← List.take_append_drop (i + 1) ks, take_next hp, List.map_append, List.map_append] at nd
      exact (List.nodup_append.mp (List.nodup_append.mp nd).1).2.2 p.2 z p.2 (by simp) rfl
    show wpAny _ A.in1 (holding [Value.ref p.1] (setAdd S (.ref p.1)) >>= _) _ _ s'
    refine wpAny_bind (wpAny_holding ?_)
    unfold setAdd
    refine wpAny_holding ?_
    refine wpAny_bind (wpAny_pyHash_tuple hu hx ?_)
    refine add_new (s := { s' with toks := s'.toks + (p.2.length + 1) }) hB' hx hu new (by omega) fun b g' B' rs' ep' t' sb hB2 pm => ?_
    have k2 : ∀ b o, g0.get? b = some o → g'.get? b = some o := fun b o e => (sb.2 b (fun z => by rw [z, z0] at e; cases e)).trans (k' b o e)
    refine wpAny_pure ⟨plainId_quiet F.plain_set_update_loop _, ih (i + 1) _ (by omega) (W.frame _ s' _ _ hst' (Nat.le_add_right _ _) fun b hb o e => ?_) k2 ⟨B', rs', ep', t', hB2, upto_next U hp pm⟩ fun s2 B2 rs2 ep2 t2 m2 hB3 U2 k3 => ?_⟩
    · exact (sb.2 b fun z => nS (z ▸ hb)).trans e
    · exact hR s2 B2 rs2 ep2 t2 (Moved.trans W.gtrans ((m.mono more).then_heap (Nat.le_add_right _ _) fun b o hb e => (sb.2 b fun z => hb (by rw [z]; exact List.mem_cons_self)).trans e) m2) hB3 U2 k3
end
end TT
set_option Elab.async false
set_option linter.all false
set_option maxRecDepth 100000
set_option maxHeartbeats 4000000
namespace TT
open PySem PySem.Spec PyProof.Rows L2
abbrev newO (w : World) : Obj := { cls := .type "set", dict := none, data := .set #[] 0 (.fresh 0 0 (!w.params.followText "set-order")) }
section
variable {P : Program} {w : World} {A : Around} {E : Value → Shared → Prop} {s : Shared}
set_option maxHeartbeats 3200000 in
theorem call_bag {x : Addr} {its : Array Value} (ks : List (Addr × List Int)) {Q : Value → Shared → Prop} (a0 : A.handled = none) (hx : s.heap.IsList x its) (hi : its.toList = ks.map fun p => Value.ref p.1) (hk : ∀ p ∈ ks, IsT P w s.heap p.2 p.1) (few : ks.length < 307) (one : (ks.map (·.2)).Nodup) (hu : A.units + 3 < cLine)
    (q : ∀ (g : Heap) (tk : Nat) B rs ep t, Bag P w g s.heap.objs.size B rs ep t → B.length = ks.length → (∀ b o, s.heap.get? b = some o → g.get? b = some o) → Q (.ref s.heap.objs.size) { s with heap := g, toks := tk }) :
    wpAny (model P w) A (call (.type "set") [.ref x]) Q E s := by
  have len : its.size = ks.length := by rw [← Array.length_toList, hi, List.length_map]
  obtain ⟨c0, c1, mro⟩ := F.called_set.mro
  have made := F.called_set.made
  have sub := F.called_set.sub
  refine wpAny_call (codeAny_of_tree ?_)
  show wpAny _ _ (callAny (.type "set") _) _ _ s
  refine wpAny_pure ⟨Code.quiet_builtin _ (by decide +kernel), codeAny_builtin F.entry_type_call ?_⟩
  rw [Around.under_plain (weight_type_call_type "set" [.ref x] []) rfl]
  have z1 := F.called_set.notType
  have z2 := F.called_set.canCreate
  have z3 := F.typeCall_set_1 (.ref x)
  repeat (any_goals (first | assumption | wp_step))
  refine codeAny_mono (code_set_led1 (.ref x) (E := E) (Q₁ := fun ob t => ob = .ref s.heap.objs.size ∧ t = { s with heap := s.heap.push (newO w) }) ⟨rfl, rfl⟩) fun r1 t1 q1 => ?_
  cases r1 with
  | error e => exact q1
  | ok f1 =>
    cases f1 with
    | ret ob =>
      obtain ⟨rfl, rfl⟩ := q1
      have new : (s.heap.push (newO w)).get? s.heap.objs.size = some (newO w) := Heap.get?_push_size _ rfl
      have ty : Shared.TypeIs { s with heap := s.heap.push (newO w) } (.ref s.heap.objs.size) "set" := ⟨_, new, rfl⟩
      have z4 := F.called_set.init.lookup
      have z5 := F.called_set.init.bind (.ref s.heap.objs.size)
      repeat (any_goals (first | assumption | wp_step))
      refine codeAny_mono (codeAny_call_builtin (R := wants (fun v t => v = .none ∧ ∃ g tk B rs ep tb, t = { s with heap := g, toks := tk } ∧ Bag P w g s.heap.objs.size B rs ep tb ∧ B.length = ks.length ∧
          (∀ b o, s.heap.get? b = some o → g.get? b = some o)) E) F.called_set.init.plain F.entry_set_init (check_set_init_1 ty ?_)) fun r2 t2 q2 => ?_
      · obtain ⟨ox, gx, cx, nx, dx⟩ := hx
        obtain ⟨oc, od, odt, osl⟩ := ox
        simp only at cx dx
        subst cx; subst dx
        have gx' : (s.heap.push (newO w)).get? x = some { cls := .type "list", dict := od, data := .seq its nx, slots := osl } := Heap.get?_push_of_some _ gx
        have z6 := F.sub_list_set
        have z7 := F.sub_list_frozenset
        have z8 : (Value.type "list" == Value.type "dict") = false := by decide
        have lx : (s.heap.push (newO w)).IsList x its := ⟨_, gx', rfl, nx, rfl⟩
        unfold Builtin.«set.__init__» noKeywords Builtin.Frozenset.updateFrom
        generalize hPI : pyIter = PI
        wp_walk
        subst hPI
        refine wpAny_pyIter_list lx (wpAny_bind (wpAny_runValue ?_))
        have below : x < s.heap.objs.size := Heap.lt_size gx
        have a3 : A.in1.in1.in1.handled = none := by simp [a0]
        have szz : (s.heap.push (newO w)).objs.size = s.heap.objs.size + 1 := Heap.size_push ..
        have nI : x ≠ (s.heap.push (newO w)).objs.size := by
          rw [szz]
          exact Nat.ne_of_lt (Nat.lt_succ_of_lt below)
        have nS : s.heap.objs.size ∉ [(s.heap.push (newO w)).objs.size, x] := by
          rw [szz]
          simp only [List.mem_cons, List.not_mem_nil, or_false, not_or]
          exact ⟨Nat.ne_of_lt (Nat.lt_succ_self _), Nat.ne_of_gt below⟩
        have val : ∀ (i : Nat) (v : Value), its[i]? = some v → ∃ p, ks[i]? = some p ∧ v = .ref p.1 := fun i v hv => by
          rw [← Array.getElem?_toList, hi, List.getElem?_map] at hv
          obtain ⟨p, hp, rfl⟩ := Option.map_eq_some_iff.mp hv
          exact ⟨p, hp, rfl⟩
        have gone : ∀ b, s.heap.objs.size ≤ b → s.heap.get? b = none := fun b hb => by
          rcases Option.eq_none_or_eq_some (s.heap.get? b) with e | ⟨o, e⟩
          · exact e
          · exact absurd (Heap.lt_size e) (Nat.not_lt.mpr hb)
        refine fill ((Walks.list a3 _ x nI its).toS) s.heap.objs.size nS ks len few one val s.heap hk (gone _ (Nat.le_refl _)) (fun b hb => gone b (by
          rw [List.mem_singleton.mp hb, szz]
          omega)) hu its.size 0 _ (by omega) ⟨⟨_, Heap.get?_push_size _ rfl, rfl, rfl⟩, lx.push _⟩ (fun b o e => Heap.get?_push_of_some _ (Heap.get?_push_of_some _ e)) ⟨[], #[], 0, _, bag_new (Heap.get?_push_of_some _ new), ⟨List.Perm.refl _⟩⟩ ?_
        intro t B rs ep tb hm hB U hkp
        obtain ⟨g, gn, dr, tk, oo⟩ := t
        have e1 : gn = s.gens := hm.gens
        have e2 : dr = s.drawn := hm.drawn
        have e3 : oo = s.os := hm.os
        subst e1; subst e2; subst e3
        refine wpAny_pure ?_
        show wpAny _ _ (ret Value.none) _ _ _
        have bl : B.length = ks.length := by rw [U.perm.length_eq, len, List.take_length]
        exact wpAny_pure ⟨rfl, g, tk, B, rs, ep, tb, rfl, hB, bl, hkp⟩
      · cases r2 with
        | error e => exact q2
        | ok f2 =>
          cases f2 with
          | ret v =>
            obtain ⟨rfl, g, tk, B, rs, ep, tb, rfl, hB, bl, hkp⟩ := q2
            repeat (any_goals (first | assumption | wp_step))
            exact q _ _ _ _ _ _ hB bl hkp
          | _ => exact q2.elim
    | _ => exact q1.elim
end
end TT
set_option Elab.async false
set_option linter.all false
set_option maxRecDepth 100000
set_option maxHeartbeats 1000000
namespace EE
open PySem PySem.Spec PyProof.Rows L2
def nodupB (l : List (Int × Int)) : Bool := match l with
  | [] => true
  | p :: r => !(r.contains p) && nodupB r
theorem nodupB_iff : ∀ {l : List (Int × Int)}, nodupB l = true ↔ l.Nodup
  | [] => by simp [nodupB]
  | p :: r => by
    rw [nodupB, Bool.and_eq_true, nodupB_iff, List.nodup_cons]
    simp
theorem nat_le_of_nodup {α : Type} [DecidableEq α] : ∀ {l m : List α}, l.Nodup → (∀ x ∈ l, x ∈ m) → l.length ≤ m.length
  | [], _, _, _ => Nat.zero_le _
  | x :: l, m, hn, hs => by
    obtain ⟨h1, h2⟩ := List.nodup_cons.mp hn
    have hx := hs x List.mem_cons_self
    have ih := nat_le_of_nodup (l := l) (m := m.erase x) h2 fun y hy => (List.mem_erase_of_ne (show y ≠ x from fun e => h1 (e ▸ hy))).2 (hs y (List.mem_cons_of_mem _ hy))
    have := List.length_erase_of_mem hx
    have := List.length_pos_of_mem hx
    rw [List.length_cons]
    omega
abbrev setLim : Nat := 307
def dLenSetP (a : DE) : DE := fun es h => (a es h).bind fun x h1 => match x with
  | .ref n => match lstAt h1 n with
    | some xs => match pairsE xs with
      | some l => if nodupB l && decide (l.length < setLim) = true then .ok (.int l.length) h1 else .no
      | none => .no
    | none => .no
  | _ => .no
def tLenSetP (K : Fg) (ta : TE) : TE := fun σ H Q => ta σ H fun x H1 => ∃ (l : Addr) (ks : List (Addr × List Int)), x = V.ref l ∧ SqL K H1 l (ks.map fun p => V.ref p.1) ∧ (∀ p ∈ ks, SqT K H1 p.1 (p.2.map V.int)) ∧ ks.length < setLim ∧ (ks.map (·.2)).Nodup ∧ Q (.int ks.length) H1
abbrev emO (w : World) : Obj := { cls := .type "set", dict := none, data := .set #[] 0 (.fresh 0 0 (!w.params.followText "set-order")) }
section
variable {P : Program} {w : World} {A : Around} {E : Value → Shared → Prop} {s : Shared}
set_option maxHeartbeats 3200000 in
theorem call_setL {x : Addr} {its : Array Value} (ns : List Int) {Q : Value → Shared → Prop} (a0 : A.handled = none) (hx : s.heap.IsList x its) (hi : IntsAre its.toList ns) (room : ns.length + 1 < scanBound)
    (k : ∀ (g : Heap) (tk n : Nat), SetR w g s.heap.objs.size (fun j => decide (j ∈ ns)) n → n ≤ ns.length → (∀ b o, s.heap.get? b = some o → g.get? b = some o) → Q (.ref s.heap.objs.size) { s with heap := g, toks := tk }) :
    wpAny (model P w) A (call (.type "set") [.ref x]) Q E s := by
  have len : its.size = ns.length := by rw [← Array.length_toList]; exact IntsAre.length hi
  obtain ⟨c0, c1, mro⟩ := F.called_set.mro
  have made := F.called_set.made
  have sub := F.called_set.sub
  refine wpAny_call (codeAny_of_tree ?_)
  show wpAny _ _ (callAny (.type "set") _) _ _ s
  refine wpAny_pure ⟨Code.quiet_builtin _ (by decide +kernel), codeAny_builtin F.entry_type_call ?_⟩
  rw [Around.under_plain (weight_type_call_type "set" [.ref x] []) rfl]
  have z1 := F.called_set.notType
  have z2 := F.called_set.canCreate
  have z3 := F.typeCall_set_1 (.ref x)
  repeat (any_goals (first | assumption | wp_step))
  refine codeAny_mono (code_set_led1 (.ref x) (E := E) (Q₁ := fun ob t => ob = .ref s.heap.objs.size ∧ t = { s with heap := s.heap.push (emO w) }) ⟨rfl, rfl⟩) fun r1 t1 q1 => ?_
  cases r1 with
  | error e => exact q1
  | ok f1 =>
    cases f1 with
    | ret ob =>
      obtain ⟨rfl, rfl⟩ := q1
      have new : (s.heap.push (emO w)).get? s.heap.objs.size = some (emO w) := Heap.get?_push_size _ rfl
      have ty : Shared.TypeIs { s with heap := s.heap.push (emO w) } (.ref s.heap.objs.size) "set" := ⟨_, new, rfl⟩
      have z4 := F.called_set.init.lookup
      have z5 := F.called_set.init.bind (.ref s.heap.objs.size)
      repeat (any_goals (first | assumption | wp_step))
      refine codeAny_mono (codeAny_call_builtin (R := wants (fun v t => v = .none ∧ ∃ g tk n, t = { s with heap := g, toks := tk } ∧ SetR w g s.heap.objs.size (fun j => decide (j ∈ ns)) n ∧ n ≤ ns.length ∧
          (∀ b o, s.heap.get? b = some o → g.get? b = some o)) E) F.called_set.init.plain F.entry_set_init (check_set_init_1 ty ?_)) fun r2 t2 q2 => ?_
      · obtain ⟨ox, gx, cx, nx, dx⟩ := hx
        obtain ⟨oc, od, odt, osl⟩ := ox
        simp only at cx dx
        subst cx; subst dx
        have gx' : (s.heap.push (emO w)).get? x = some { cls := .type "list", dict := od, data := .seq its nx, slots := osl } := Heap.get?_push_of_some _ gx
        have z6 := F.sub_list_set
        have z7 := F.sub_list_frozenset
        have z8 : (Value.type "list" == Value.type "dict") = false := by decide
        have lx : (s.heap.push (emO w)).IsList x its := ⟨_, gx', rfl, nx, rfl⟩
        unfold Builtin.«set.__init__» noKeywords Builtin.Frozenset.updateFrom
        generalize hPI : pyIter = PI
        wp_walk
        subst hPI
        refine wpAny_pyIter_list lx (wpAny_bind (wpAny_runValue ?_))
        have below : x < s.heap.objs.size := Heap.lt_size gx
        have a3 : A.in1.in1.in1.handled = none := by simp [a0]
        have szz : (s.heap.push (emO w)).objs.size = s.heap.objs.size + 1 := Heap.size_push ..
        have nI : x ≠ (s.heap.push (emO w)).objs.size := by
          rw [szz]
          exact Nat.ne_of_lt (Nat.lt_succ_of_lt below)
        have nS : s.heap.objs.size ∉ [(s.heap.push (emO w)).objs.size, x] := by
          rw [szz]
          simp only [List.mem_cons, List.not_mem_nil, or_false, not_or]
          exact ⟨Nat.ne_of_lt (Nat.lt_succ_self _), Nat.ne_of_gt below⟩
        have val : ∀ (i : Nat) (v : Value), its[i]? = some v → ∃ n t, ns[i]? = some n ∧ v = .int n t := fun i v hv => by
          have il : i < ns.length := by rw [← len]; exact (Array.getElem?_eq_some_iff.mp hv).1
          obtain ⟨t, e⟩ := IntsAre.int_at hi i v (by rw [Array.getElem?_toList]; exact hv)
          exact ⟨ns[i], t, List.getElem?_eq_getElem il, by rw [e, List.getD_eq_getElem?_getD, List.getElem?_eq_getElem il]; rfl⟩
        refine set_update_ints ((Walks.list a3 _ x nI its).toS) s.heap.objs.size nS ns len room val (its.size - 0) 0 _ (by omega) (Nat.zero_le _) ⟨⟨_, Heap.get?_push_size _ rfl, rfl, rfl⟩, lx.push _⟩ ⟨0, Nat.le_refl 0, setR_new_at (Heap.get?_push_of_some _ new)⟩ ?_
        intro t n hm hn hS
        obtain ⟨g, gn, dr, tk, oo⟩ := t
        have e1 : gn = s.gens := hm.gens
        have e2 : dr = s.drawn := hm.drawn
        have e3 : oo = s.os := hm.os
        subst e1; subst e2; subst e3
        rw [len] at hn
        refine wpAny_pure ?_
        show wpAny _ _ (ret Value.none) _ _ _
        refine wpAny_pure ⟨rfl, g, tk, n, rfl, hS, hn, fun b o e => ?_⟩
        have hb := Heap.lt_size e
        refine hm.heap b o ?_ (Heap.get?_push_of_some _ (Heap.get?_push_of_some _ e))
        rw [szz]
        simp only [List.mem_cons, List.not_mem_nil, or_false, not_or]
        exact ⟨Nat.ne_of_lt hb, Nat.ne_of_lt (Nat.lt_succ_of_lt hb)⟩
      · cases r2 with
        | error e => exact q2
        | ok f2 =>
          cases f2 with
          | ret v =>
            obtain ⟨rfl, g, tk, n, rfl, hS, hn, hk⟩ := q2
            repeat (any_goals (first | assumption | wp_step))
            exact k _ _ _ hS hn hk
          | _ => exact q2.elim
    | _ => exact q1.elim
end
end EE
set_option Elab.async false
set_option linter.all false
set_option maxRecDepth 100000
set_option maxHeartbeats 1000000
namespace EE
open PySem PySem.Spec PyProof.Rows L2
section
variable {X : Cx} {ct : Nat → Addr × List Str} {E : XK} {G : Gx} {a : Expr} {da : DE}
theorem pe_lenSetP {ta : TE} {p p2 q pos : Pos} (hc : X.calm = true) (hu : X.A.units + 64 < cLine) (hg : Gl X "len") (hm : X.mg "len" = none) (hg2 : Gl X "set") (hm2 : X.mg "set" = none) (ha : PE X a ta)
    (na : starEach [a] X.env = (false, eval a X.env) :: starEach [] X.env := by rfl) : PE X (.Call (.Name "len" p) [.Call (.Name "set" p2) [a] [] q] [] pos) (tLenSetP X.K ta) := by
  refine ⟨fun pins s σ H Q I h => ?_⟩
  refine Call_ (ld_blt I hg hm PySem.boot_len ?_)
  refine callWith_builtin1 (args_cons ?_ rfl) rfl rfl
  refine Call_ (ld_blt I hg2 hm2 boot_set ?_)
  refine callWith_type1 (args_cons (thn (ha.run pins s σ H _ I h) fun v s1 ⟨x, H1, I1, r1, q1⟩ => args_nil ?_) na) na rfl
  obtain ⟨l, ks, rfl, hq, hk, hf, hnd, q1⟩ := q1
  cases r1
  obtain ⟨its, rv, pl, hz⟩ := I1.list hq
  refine TT.call_bag (P := X.prog) (w := X.w) ks (I1.ok.hd hc) pl.isList (by simpa using refs_of_vals rv) (fun p hp => I1.isT (hk p hp)) hf hnd (by omega) fun h' tk B rs ep t R hlen k => ?_
  refine args_nil ?_
  obtain ⟨o, ho, hex, hd⟩ := R.obj
  have I2 : Inv X pins σ H1 { s1 with heap := h', toks := tk } := I1.kept k
  have hsz : rs.size = B.length := TT.Bag.len (s := { s1 with heap := h', toks := tk }) R
  refine call_len_set ho hex hd (TT.Bag.fits (s := { s1 with heap := h', toks := tk }) R) (by rw [hsz, hlen]; unfold setLim at hf; omega) ⟨.int ks.length, H1, I2.tok _, ⟨_, by rw [hsz, hlen]⟩, q1⟩
theorem xe_lenSetP {p p2 q pos : Pos} (hc : X.calm = true) (hu : X.A.units + 64 < cLine) (hg : Gl X "len") (hm : X.mg "len" = none) (hg2 : Gl X "set") (hm2 : X.mg "set" = none) (ha : PEd X ct E a da)
    (na : starEach [a] X.env = (false, eval a X.env) :: starEach [] X.env := by rfl) : PEd X ct E (.Call (.Name "len" p) [.Call (.Name "set" p2) [a] [] q] [] pos) (dLenSetP da) := by
  obtain ⟨t, h1, h2⟩ := ha
  refine ⟨_, pe_lenSetP hc hu hg hm hg2 hm2 h1 na, fun ρ σ H es eh Q rel h => ?_⟩
  refine h2.bind rel h fun ρ1 H1 x eh1 u e1 rel1 v1 h1 => ?_
  split at h1
  · rename_i n
    split at h1
    · rename_i xs e2
      split at h1
      · rename_i l e3
        split at h1
        · rename_i hl
          simp only [Bool.and_eq_true, decide_eq_true_eq] at hl
          obtain ⟨b, vs, g1, g2, g3⟩ := lst_of rel1.hr e2
          obtain ⟨a', q1, rfl⟩ := vr_ref.mp v1
          rw [g1] at q1; cases q1
          rw [pairsE_eq e3] at g3
          obtain ⟨bs, rfl, k1, k2, k3⟩ := pairs_refs g3
          have hln : bs.length = l.length := by rw [← k1, List.length_map]
          refine ⟨b, bs.map fun c => (c, [(pairAt H1 c).1, (pairAt H1 c).2]), rfl, ?_, fun p hp => ?_, by rw [List.length_map, hln]; exact hl.2, ?_, ?_⟩
          · rw [List.map_map]
            exact g2
          · obtain ⟨c, hc, rfl⟩ := List.mem_map.mp hp
            obtain ⟨i, j, e⟩ := k2 c hc
            refine SqT.of ?_
            unfold pairAt
            rw [e]
            rfl
          · rw [List.map_map]
            have hn := nodupB_iff.mp hl.1
            rw [← k1] at hn
            rw [List.Nodup, List.pairwise_map] at hn ⊢
            refine hn.imp fun {x y} hxy z => hxy ?_
            simp only [Function.comp_apply, List.cons.injEq, and_true] at z
            exact Prod.ext z.1 z.2
          · rw [List.length_map, hln]
            exact h1 ρ1 H1 _ (Ext.refl _ _ _) rel1.hr (vr_int.mpr rfl)
        · exact h1.elim
      · exact h1.elim
    · exact h1.elim
  · exact h1.elim
def rSetL (K : Fg) (w : World) : List V → Hp → VK → Prop := fun xs H Q => ∃ (l : Addr) (ns : List Int), xs = [V.ref l] ∧ SqL K H l (ns.map V.int) ∧ ns.length < 64 ∧ ∀ p n, H p = none → n ≤ ns.length → Q (.ref p) (upd H p (SetO w p (fun j => decide (j ∈ ns)) n))
theorem cr_setL (hc : X.calm = true) : CallR X (.type "set") (rSetL X.K X.w) := by
  intro pins s σ H xs us Q I r h
  obtain ⟨l, ns, rfl, hl, hf, q⟩ := h
  rw [Vals.ref1 r]
  obtain ⟨its, rv, pl, hz⟩ := I.list hl
  refine call_setL ns (I.ok.hd hc) pl.isList (by simpa using rv.ints) (by unfold scanBound; omega) fun g tk n hS hn hk => ?_
  exact ⟨.ref s.heap.objs.size, upd H s.heap.objs.size (SetO X.w s.heap.objs.size (fun j => decide (j ∈ ns)) n), I.laid (t' := tk) hk (Nat.le_refl _) (setO_new hS), rfl, q _ _ (I.hok.fresh (Nat.le_refl _)) hn⟩
def dd : List Int → List Int
  | [] => []
  | x :: r => if x ∈ dd r then dd r else x :: dd r
theorem mem_dd {k : Int} : ∀ {l : List Int}, k ∈ dd l ↔ k ∈ l
  | [] => Iff.rfl
  | x :: r => by
    unfold dd
    have ih := mem_dd (k := k) (l := r)
    split
    · rename_i h
      rw [ih, List.mem_cons]
      constructor
      · exact .inr
      · rintro (rfl | z)
        · exact mem_dd.mp h
        · exact z
    · rw [List.mem_cons, List.mem_cons, ih]
theorem dd_nodup : ∀ l : List Int, (dd l).Nodup
  | [] => List.nodup_nil
  | x :: r => by
    unfold dd
    split
    · exact dd_nodup r
    · rename_i h
      exact List.nodup_cons.mpr ⟨h, dd_nodup r⟩
def usort (l : List Int) : List Int := isort (dd l)
def dSortSet (a : DE) : DE := fun es h => (a es h).bind fun x h1 => match x with
  | .ref n => match lstAt h1 n with
    | some xs => match intsE xs with
      | some l => if l.length < 64 then .ok (.ref h1.length) (h1 ++ [.lst ((usort l).map EV.int)]) else .no
      | none => .no
    | none => .no
  | _ => .no
theorem usort_eq {l m : List Int} (h1 : m.Pairwise (· < ·)) (h2 : ∀ k, k ∈ m ↔ k ∈ l) : m = usort l := by
  refine isort_eq ?_ (h1.imp fun h => Int.le_of_lt h)
  refine (List.perm_ext_iff_of_nodup (h1.imp fun h => Int.ne_of_lt h) (dd_nodup l)).mpr fun k => ?_
  rw [h2, mem_dd]
theorem xe_sortSet {p p2 q pos : Pos} (hc : X.calm = true) (hg : Gl X "sorted") (hm : X.mg "sorted" = none) (hg2 : Gl X "set") (hm2 : X.mg "set" = none) (ha : PEd X ct E a da)
    (na : starEach [a] X.env = (false, eval a X.env) :: starEach [] X.env := by rfl) (nb : starEach [.Call (.Name "set" p2) [a] [] q] X.env = (false, eval (.Call (.Name "set" p2) [a] [] q) X.env) :: starEach [] X.env := by rfl) : PEd X ct E (.Call (.Name "sorted" p) [.Call (.Name "set" p2) [a] [] q] [] pos) (dSortSet da) := by
  obtain ⟨t, h1, h2⟩ := ha
  refine ⟨_, pe_callB (cr_sortedSet hc) hg hm (by decide +kernel) (pa_cons (pe_callTy (cr_setL hc) hg2 hm2 (by decide +kernel) (pa_cons h1 pa_nil na) (he := na)) pa_nil nb) (he := nb), fun ρ σ H es eh Q rel h => ?_⟩
  refine h2.bind rel h fun ρ1 H1 x eh1 u e1 rel1 v1 h1 => ?_
  split at h1
  · rename_i n
    split at h1
    · rename_i xs e2
      split at h1
      · rename_i l e3
        split at h1
        · rename_i hl
          obtain ⟨b, vs, g1, g2, g3⟩ := lst_of rel1.hr e2
          obtain ⟨a', q1, rfl⟩ := vr_ref.mp v1
          rw [g1] at q1; cases q1
          rw [intsE_eq e3] at g3
          have := VRs.of_ints g3
          subst this
          refine ⟨b, l, rfl, g2, hl, fun d n hd hn => ?_⟩
          refine ⟨d, _, n, rfl, upd_same, by omega, fun ns p o1 o2 o3 hp => ?_⟩
          have e4 : ns = usort l := usort_eq o1 fun k => by rw [o2 k, decide_eq_true_eq]
          subst e4
          have es := Ext.side (K := X.K) (ρ := ρ1) (SetO X.w d (fun j => decide (j ∈ l)) n) hd
          refine new_lst (E := E) (rel1.hr.side _ hd) (VRs.ints (usort l)) ?_ p hp
          exact h1.mono es
        · exact h1.elim
      · exact h1.elim
    · exact h1.elim
  · exact h1.elim
def fLenT : DL := fun xs h => match xs with
  | [.ref n] => match mdicAt h n with
    | some (true, kvs) => .ok (.int kvs.length) h
    | _ => .no
  | _ => .no
theorem c_lenT : Cld X ct E (.builtin "len") fLenT := ⟨_, call_len_dT, fun ρ H eh xs as Q hr hx h => by
  unfold fLenT at h
  split at h
  · rename_i n
    split at h
    · rename_i kvs e1
      obtain ⟨p, u, g1, g2, g3, g4⟩ := mdic_of hr e1
      obtain ⟨l, rfl, hk⟩ := g3
      obtain ⟨v, rfl, hv⟩ := vrs_one hx
      obtain ⟨p', q1, rfl⟩ := vr_ref.mp hv
      rw [g1] at q1; cases q1
      exact ⟨p, l, rfl, g2, h ρ H _ (Ext.refl _ _ _) hr (by rw [hk.len]; exact vr_int.mpr rfl)⟩
    · exact h.elim
  · exact h.elim⟩
end
end EE
set_option Elab.async false
set_option linter.all false
set_option maxRecDepth 100000
set_option maxHeartbeats 1000000
namespace EE
open PySem PySem.Spec PyProof.Rows L2
def strsE : List EV → Option (List Str)
  | [] => some []
  | x :: xs => match x, strsE xs with
    | .str s, some ss => some (s :: ss)
    | _, _ => none
theorem strsE_eq : ∀ {xs : List EV} {ss : List Str}, strsE xs = some ss → xs = ss.map EV.str
  | [], ss, h => by cases h; rfl
  | x :: xs, ss, h => by
    unfold strsE at h
    split at h
    · rename_i s ss' e
      cases h
      rw [List.map_cons, strsE_eq e]
    · cases h
theorem strsE_map : ∀ ss : List Str, strsE (ss.map EV.str) = some ss
  | [] => rfl
  | s :: ss => by rw [List.map_cons]; unfold strsE; rw [strsE_map ss]
theorem VRs.strs {K : Fg} {ρ : Rho} {H : Hp} : ∀ (ss : List Str), VRs K ρ H (ss.map EV.str) (ss.map V.str)
  | [] => vrs_nil.mpr rfl
  | s :: ss => vrs_cons.mpr ⟨.str s, ss.map V.str, rfl, vr_str.mpr rfl, VRs.strs ss⟩
theorem VRs.of_strs {K : Fg} {ρ : Rho} {H : Hp} : ∀ {ss : List Str} {vs : List V}, VRs K ρ H (ss.map EV.str) vs → vs = ss.map V.str
  | [], vs, h => vrs_nil.mp h
  | s :: ss, vs, h => by
    obtain ⟨v, r, rfl, h1, h2⟩ := vrs_cons.mp h
    rw [vr_str.mp h1, VRs.of_strs h2]
    rfl
def fCatS : D2 := fun x y h => match x, y with
  | .str i, .str j => if i.length + j.length ≤ 100000 then .ok (.str (i ++ j)) h else .no
  | _, _ => .no
def fStrI : DL := fun xs h => match xs with
  | [.int i] => if i.natAbs.log2 < 1920 then .ok (.str (toString i)) h else .no
  | _ => .no
def fStrS : DL := fun xs h => match xs with
  | [.str a] => .ok (.str a) h
  | _ => .no
abbrev fStr : DL := dLor fStrI fStrS
def fIntS : DL := fun xs h => match xs with
  | [.str a] => match PySem.intText? a with
    | some n => if a.length ≤ 640 then .ok (.int n) h else .no
    | none => .no
  | _ => .no
def fLenS : DL := fun xs h => match xs with
  | [.str a] => if a.length ≤ 100000 then .ok (.int a.length) h else .no
  | _ => .no
def mJoin : EV → DL := fun x xs h => match x, xs with
  | .str a, [.ref n] => match lstAt h n with
    | some ys => match strsE ys with
      | some ss => if (ss.map (·.length)).sum + ss.length * a.length ≤ 16777216 then .ok (.str (Txt.join a ss)) h else .no
      | none => .no
    | none => .no
  | _, _ => .no
def mSplit : EV → DL := fun x xs h => match x, xs with
  | .str a, [.str b] => if (b.length == 0) = false ∧ a.length ≤ 99998 then .ok (.ref h.length) (h ++ [.lst ((Txt.split a b).map EV.str)]) else .no
  | _, _ => .no
def mS0 (g : Str → EV) : EV → DL := fun x xs h => match x, xs with
  | .str a, [] => .ok (g a) h
  | _, _ => .no
def mStarts : EV → DL := fun x xs h => match x, xs with
  | .str a, [.str b] => .ok (.bl (Txt.startswith a b)) h
  | _, _ => .no
def dSM0 (f : EV → DL) (o : DE) : DE := fun es h => (o es h).bind fun x h1 => match x with
  | .str _ => f x [] h1
  | _ => .no
def dSM1 (f : EV → DL) (o a : DE) : DE := fun es h => (o es h).bind fun x h1 => match x with
  | .str _ => (a es h1).bind fun y h2 => f x [y] h2
  | _ => .no
section
variable {X : Cx} {ct : Nat → Addr × List Str} {E : XK} {G : Gx}
theorem o_catS : Opd X ct E (binaryOp .Add) fCatS := ⟨_, op_add_str, fun ρ H eh x y a b Q hr hx hy h => by
  unfold fCatS at h
  split at h
  · rename_i i j
    split at h
    · rename_i hl
      exact ⟨i, j, vr_str.mp hx, vr_str.mp hy, sz5 hl, h ρ H _ (Ext.refl _ _ _) hr (vr_str.mpr rfl)⟩
    · exact h.elim
  · exact h.elim⟩
theorem c_strI : Cld X ct E (.type "str") fStrI := ⟨_, call_str_int, fun ρ H eh xs as Q hr hx h => by
  unfold fStrI at h
  split at h
  · rename_i i
    split at h
    · rename_i hl
      obtain ⟨v, rfl, hv⟩ := vrs_one hx
      rw [vr_int.mp hv]
      exact ⟨i, rfl, hl, h ρ H _ (Ext.refl _ _ _) hr (vr_str.mpr rfl)⟩
    · exact h.elim
  · exact h.elim⟩
theorem c_strS : Cld X ct E (.type "str") fStrS := ⟨_, SkE.call_str_str, fun ρ H eh xs as Q hr hx h => by
  unfold fStrS at h
  split at h
  · rename_i i
    obtain ⟨v, rfl, hv⟩ := vrs_one hx
    rw [vr_str.mp hv]
    exact ⟨i, rfl, h ρ H _ (Ext.refl _ _ _) hr (vr_str.mpr rfl)⟩
  · exact h.elim⟩
theorem c_str : Cld X ct E (.type "str") fStr := c_strI.or c_strS
theorem c_intS : Cld X ct E (.type "int") fIntS := ⟨_, call_int_str, fun ρ H eh xs as Q hr hx h => by
  unfold fIntS at h
  split at h
  · rename_i a
    split at h
    · rename_i n hn
      split at h
      · rename_i hl
        obtain ⟨v, rfl, hv⟩ := vrs_one hx
        rw [vr_str.mp hv]
        exact ⟨a, n, rfl, hn, hl, h ρ H _ (Ext.refl _ _ _) hr (vr_int.mpr rfl)⟩
      · exact h.elim
    · exact h.elim
  · exact h.elim⟩
theorem c_lenS : Cld X ct E (.builtin "len") fLenS := ⟨_, call_len_str, fun ρ H eh xs as Q hr hx h => by
  unfold fLenS at h
  split at h
  · rename_i a
    split at h
    · rename_i hl
      obtain ⟨v, rfl, hv⟩ := vrs_one hx
      rw [vr_str.mp hv]
      exact ⟨a, rfl, sz5 hl, h ρ H _ (Ext.refl _ _ _) hr (vr_int.mpr rfl)⟩
    · exact h.elim
  · exact h.elim⟩
theorem m_join : Mtd X ct E "str.join" mJoin := ⟨_, mt_join, fun ρ H eh x a xs as Q hr hx hxs h => by
  unfold mJoin at h
  split at h
  · rename_i s n
    split at h
    · rename_i ys e1
      split at h
      · rename_i ss e2
        split at h
        · rename_i hl
          obtain ⟨v, rfl, hv⟩ := vrs_one hxs
          obtain ⟨b, vs, g1, g2, g3⟩ := lst_of hr e1
          obtain ⟨b', q1, rfl⟩ := vr_ref.mp hv
          rw [g1] at q1; cases q1
          rw [strsE_eq e2] at g3
          rw [VRs.of_strs g3] at g2
          exact ⟨s, b, ss, vr_str.mp hx, rfl, .inl g2, hl, h ρ H _ (Ext.refl _ _ _) hr (vr_str.mpr rfl)⟩
        · exact h.elim
      · exact h.elim
    · exact h.elim
  · exact h.elim⟩
theorem m_split : Mtd X ct E "str.split" mSplit := ⟨_, mt_split, fun ρ H eh x a xs as Q hr hx hxs h => by
  unfold mSplit at h
  split at h
  · rename_i s t
    split at h
    · rename_i hl
      obtain ⟨v, rfl, hv⟩ := vrs_one hxs
      rw [vr_str.mp hv]
      exact ⟨s, t, vr_str.mp hx, rfl, hl.1, by have := sz5 (show 100000 ≤ 100000 from Nat.le_refl _); omega, new_lst hr (VRs.strs _) h⟩
    · exact h.elim
  · exact h.elim⟩
theorem m_isascii : Mtd X ct E "str.isascii" (mS0 fun a => .bl (Txt.isascii a)) := ⟨_, mt_isascii, fun ρ H eh x a xs as Q hr hx hxs h => by
  unfold mS0 at h
  split at h
  · exact ⟨_, vr_str.mp hx, vrs_nil.mp hxs, trivial, h ρ H _ (Ext.refl _ _ _) hr (vr_bl.mpr rfl)⟩
  · exact h.elim⟩
theorem m_isdigit : Mtd X ct E "str.isdigit" (mS0 fun a => .bl (Txt.isdigit a)) := ⟨_, mt_isdigit, fun ρ H eh x a xs as Q hr hx hxs h => by
  unfold mS0 at h
  split at h
  · exact ⟨_, vr_str.mp hx, vrs_nil.mp hxs, trivial, h ρ H _ (Ext.refl _ _ _) hr (vr_bl.mpr rfl)⟩
  · exact h.elim⟩
theorem m_starts : Mtd X ct E "str.startswith" mStarts := ⟨_, mt_startswith, fun ρ H eh x a xs as Q hr hx hxs h => by
  unfold mStarts at h
  split at h
  · obtain ⟨v, rfl, hv⟩ := vrs_one hxs
    rw [vr_str.mp hv]
    exact ⟨_, _, vr_str.mp hx, rfl, h ρ H _ (Ext.refl _ _ _) hr (vr_bl.mpr rfl)⟩
  · exact h.elim⟩
variable {o e : Expr} {d a : DE}
theorem xe_sm0 {id : String} {name : Str} {apos pos : Pos} {f : EV → DL} (slot : Slot "str" name id) (ty : typeOf (.builtin id) = pure (.type "method_descriptor")) (m : Mtd X ct E id f) (ho : PEd X ct E o d)
    (hbase : attributeBase o name X.env (eval o X.env) = eval o X.env := by rfl) (hline : (apos.endLine == pos.line) = true := by rfl) : PEd X ct E (.Call (.Attribute o name apos) [] [] pos) (dSM0 f d) := by
  obtain ⟨r, m1, m2⟩ := m
  obtain ⟨t, a1, a2⟩ := ho
  refine ⟨_, pe_m0 slot ty m1 a1 hbase hline, fun ρ σ H es eh Q rel h => ?_⟩
  refine a2.bind rel h fun ρ1 H1 x eh1 u e1 rel1 v1 h1 => ?_
  cases x with
  | str s => exact ⟨⟨s, vr_str.mp v1⟩, m2 ρ1 H1 eh1 _ _ [] [] Q rel1.hr v1 (vrs_nil.mpr rfl) h1⟩
  | _ => exact h1.elim
theorem xe_sm1 {id : String} {name : Str} {apos pos : Pos} {f : EV → DL} (slot : Slot "str" name id) (ty : typeOf (.builtin id) = pure (.type "method_descriptor")) (m : Mtd X ct E id f) (ho : PEd X ct E o d) (he : PEd X ct E e a)
    (hs : starEach [e] X.env = [(false, eval e X.env)] := by rfl) (hbase : attributeBase o name X.env (eval o X.env) = eval o X.env := by rfl) (hline : (apos.endLine == pos.line) = true := by rfl) :
    PEd X ct E (.Call (.Attribute o name apos) [e] [] pos) (dSM1 f d a) := by
  obtain ⟨r, m1, m2⟩ := m
  obtain ⟨t, a1, a2⟩ := ho
  obtain ⟨u, b1, b2⟩ := he
  refine ⟨_, pe_m1 slot ty m1 a1 b1 hs hbase hline, fun ρ σ H es eh Q rel h => ?_⟩
  refine a2.bind rel h fun ρ1 H1 x eh1 u e1 rel1 v1 h1 => ?_
  cases x with
  | str s =>
    refine ⟨⟨s, vr_str.mp v1⟩, ?_⟩
    refine b2.bind rel1 h1 fun ρ2 H2 y eh2 w e2 rel2 v2 h2 => ?_
    exact m2 ρ2 H2 eh2 _ _ [y] [w] Q rel2.hr (v1.mono e2) (VRs.one v2) h2
  | _ => exact h1.elim
theorem xe_join {apos pos : Pos} (ho : PEd X ct E o d) (he : PEd X ct E e a) (hs : starEach [e] X.env = [(false, eval e X.env)] := by rfl) (hbase : attributeBase o "join" X.env (eval o X.env) = eval o X.env := by rfl) (hline : (apos.endLine == pos.line) = true := by rfl) :
    PEd X ct E (.Call (.Attribute o "join" apos) [e] [] pos) (dSM1 mJoin d a) := xe_sm1 F.slot_str_join F.type_str_join m_join ho he hs hbase hline
theorem xe_split {apos pos : Pos} (ho : PEd X ct E o d) (he : PEd X ct E e a) (hs : starEach [e] X.env = [(false, eval e X.env)] := by rfl) (hbase : attributeBase o "split" X.env (eval o X.env) = eval o X.env := by rfl) (hline : (apos.endLine == pos.line) = true := by rfl) :
    PEd X ct E (.Call (.Attribute o "split" apos) [e] [] pos) (dSM1 mSplit d a) := xe_sm1 F.slot_str_split F.type_str_split m_split ho he hs hbase hline
theorem xe_starts {apos pos : Pos} (ho : PEd X ct E o d) (he : PEd X ct E e a) (hs : starEach [e] X.env = [(false, eval e X.env)] := by rfl) (hbase : attributeBase o "startswith" X.env (eval o X.env) = eval o X.env := by rfl) (hline : (apos.endLine == pos.line) = true := by rfl) :
    PEd X ct E (.Call (.Attribute o "startswith" apos) [e] [] pos) (dSM1 mStarts d a) := xe_sm1 F.slot_str_startswith F.type_str_startswith m_starts ho he hs hbase hline
abbrev mIsascii : EV → DL := mS0 fun a => .bl (Txt.isascii a)
abbrev mIsdigit : EV → DL := mS0 fun a => .bl (Txt.isdigit a)
theorem xe_isascii {apos pos : Pos} (ho : PEd X ct E o d) (hbase : attributeBase o "isascii" X.env (eval o X.env) = eval o X.env := by rfl) (hline : (apos.endLine == pos.line) = true := by rfl) :
    PEd X ct E (.Call (.Attribute o "isascii" apos) [] [] pos) (dSM0 mIsascii d) := xe_sm0 F.slot_str_isascii F.type_str_isascii m_isascii ho hbase hline
theorem xe_isdigit {apos pos : Pos} (ho : PEd X ct E o d) (hbase : attributeBase o "isdigit" X.env (eval o X.env) = eval o X.env := by rfl) (hline : (apos.endLine == pos.line) = true := by rfl) :
    PEd X ct E (.Call (.Attribute o "isdigit" apos) [] [] pos) (dSM0 mIsdigit d) := xe_sm0 F.slot_str_isdigit F.type_str_isdigit m_isdigit ho hbase hline
end
theorem ltC_no : ∀ {a b : List Nat}, ltCps a b = false → ltCps b a = false → a = b
  | [], [], _, _ => rfl
  | [], _ :: _, h, _ => by cases h
  | _ :: _, [], _, h => by cases h
  | x :: r, y :: t, h, g => by
    simp only [ltCps, Bool.or_eq_false_iff, decide_eq_false_iff_not, Bool.and_eq_false_iff, beq_eq_false_iff_ne] at h g
    have e : x = y := by omega
    subst e
    rw [ltC_no (a := r) (b := t) (by simpa using h.2) (by simpa using g.2)]
theorem ltC_trans : ∀ {a b c : List Nat}, ltCps b a = false → ltCps c b = false → ltCps c a = false
  | [], b, [], _, _ => rfl
  | [], [], _ :: _, _, h => by rfl
  | [], _ :: _, _ :: _, _, _ => rfl
  | _ :: _, [], _, h, _ => by cases h
  | _ :: _, _ :: _, [], _, h => by cases h
  | x :: r, y :: t, z :: u, h, g => by
    simp only [ltCps, Bool.or_eq_false_iff, decide_eq_false_iff_not, Bool.and_eq_false_iff, beq_eq_false_iff_ne] at h g ⊢
    refine ⟨by omega, ?_⟩
    by_cases e : z = x
    · right
      have e1 : y = x := by omega
      have e2 : z = y := by omega
      refine ltC_trans (a := r) (b := t) (c := u) ?_ ?_
      · rcases h.2 with q | q
        · exact absurd e1 q
        · exact q
      · rcases g.2 with q | q
        · exact absurd e2 q
        · exact q
    · exact .inl e
theorem ltC_tot : ∀ (a b : List Nat), ltCps b a = false ∨ ltCps a b = false
  | [], [] => .inl rfl
  | [], _ :: _ => .inl rfl
  | _ :: _, [] => .inr rfl
  | x :: r, y :: t => by
    simp only [ltCps, Bool.or_eq_false_iff, decide_eq_false_iff_not, Bool.and_eq_false_iff, beq_eq_false_iff_ne]
    have := ltC_tot r t
    by_cases e : x = y
    · subst e
      rcases this with q | q
      · exact .inl ⟨by omega, .inr q⟩
      · exact .inr ⟨by omega, .inr q⟩
    · by_cases l : x < y
      · exact .inl ⟨by omega, .inl (by omega)⟩
      · exact .inr ⟨by omega, .inl (by omega)⟩
abbrev leS (a b : Str) : Bool := !ltCps b.cps.toList a.cps.toList
def ssort (l : List Str) : List Str := l.mergeSort leS
theorem leS_trans (a b c : Str) (h : leS a b = true) (g : leS b c = true) : leS a c = true := by
  simp only [leS, Bool.not_eq_true'] at *
  exact ltC_trans h g
theorem leS_tot (a b : Str) : (leS a b || leS b a) = true := by
  simp only [leS, Bool.or_eq_true, Bool.not_eq_true']
  exact ltC_tot _ _
theorem leS_anti {a b : Str} (h : leS a b = true) (g : leS b a = true) : a = b := by
  simp only [leS, Bool.not_eq_true'] at *
  exact TL.ext_tl (ltC_no g h)
theorem ssort_perm (l : List Str) : (ssort l).Perm l := List.mergeSort_perm l _
theorem ssort_pw (l : List Str) : (ssort l).Pairwise fun a b => leS a b = true := List.pairwise_mergeSort leS_trans leS_tot l
theorem rising_pw : ∀ (r : List Str) (p : Str), risingS p r = true → (p :: r).Pairwise fun a b => leS a b = true
  | [], p, _ => List.pairwise_singleton _ _
  | x :: r, p, h => by
    simp only [risingS, Bool.and_eq_true] at h
    have ih := rising_pw r x h.2
    refine List.pairwise_cons.mpr ⟨fun y hy => ?_, ih⟩
    rcases List.mem_cons.mp hy with e | hy
    · subst e; exact h.1
    · exact leS_trans _ _ _ h.1 ((List.pairwise_cons.mp ih).1 y hy)
theorem ssort_eq {l m : List Str} (h : m.Perm l) (hs : sortedS m = true) : m = ssort l := by
  refine List.Perm.eq_of_pairwise (le := fun a b => leS a b = true) (fun a b _ _ h1 h2 => leS_anti h1 h2) ?_ (ssort_pw l) (h.trans (ssort_perm l).symm)
  cases m with
  | nil => exact .nil
  | cons x r => exact rising_pw r x hs
def fSortK : DL := fun xs h => match xs with
  | [.ref n] => match dicAt h n with
    | some (false, kvs) => match strsE (kvs.map (·.1)) with
      | some l => if l.length < 64 then .ok (.ref h.length) (h ++ [.lst ((ssort l).map EV.str)]) else .no
      | none => .no
    | _ => .no
  | _ => .no
theorem keyOf_strs : ∀ {xs : List EV} {l : List Str} {ks : List Key}, strsE xs = some l → xs.map keyOf = ks.map some → ks = l.map Sum.inr
  | xs, l, ks, h, e => by
    rw [strsE_eq h, List.map_map] at e
    have : (l.map (Sum.inr : Str → Key)).map some = ks.map some := by
      rw [← e, List.map_map]
      rfl
    exact (List.map_inj_right (fun _ _ => Option.some.inj)).mp this.symm
section
variable {X : Cx} {ct : Nat → Addr × List Str} {E : XK} {G : Gx}
theorem c_sortK (hc : X.calm = true) : Cld X ct E (.builtin "sorted") fSortK := ⟨_, call_sortedD hc, fun ρ H eh xs as Q hr hx h => by
  unfold fSortK at h
  split at h
  · rename_i n
    split at h
    · rename_i kvs e1
      split at h
      · rename_i l e2
        split at h
        · rename_i hl
          obtain ⟨v, rfl, hv⟩ := vrs_one hx
          obtain ⟨a, u, g1, g2, g3⟩ := dic_of hr e1
          obtain ⟨a', q1, rfl⟩ := vr_ref.mp hv
          rw [g1] at q1; cases q1
          obtain ⟨m, rfl, hk⟩ := g3
          have hkeys : m.map (·.1) = l.map Sum.inr := by
            refine keyOf_strs e2 ?_
            rw [List.map_map]
            have := hk.keys
            rw [List.map_map]
            exact this
          refine ⟨a, m, l, rfl, g2, hkeys, hl, fun ys p h1 h2 hp => ?_⟩
          rw [ssort_eq h1 h2]
          exact new_lst hr (VRs.strs _) h p hp
        · exact h.elim
      · exact h.elim
    · exact h.elim
  · exact h.elim⟩
end
end EE
set_option Elab.async false
set_option linter.all false
set_option maxRecDepth 100000
set_option maxHeartbeats 1000000
namespace EE
open PySem PySem.Spec PyProof.Rows L2
def dItE (a : DA) : DI := fun es h => (a es h).bind fun xs h1 => match xs with
  | [.ref n] => match lstAt h1 n with
    | some _ => .ok ⟨some n, [], fun i x => .tup [.int i, x]⟩ h1
    | none => .no
  | _ => .no
section
variable {X : Cx} {ct : Nat → Addr × List Str} {E : XK} {G : Gx}
theorem jr_enum {ρ : Rho} {H : Hp} {n : Nat} {a : Addr} (h : adr ρ n = some a) : JR G ρ H ⟨some n, [], fun i x => .tup [.int i, x]⟩ (Ite G.K a) := fun ρ' H' eh xs e hr hc => by
  obtain ⟨a', vs, g1, g2, g3⟩ := lst_of hr (show lstAt eh n = some xs from hc)
  rw [e.get h] at g1; cases g1
  refine ⟨fun i x hx => ?_, fun i hx => ⟨vs, g2, ?_⟩⟩
  · obtain ⟨v, h1, h2⟩ := g3.get hx
    refine ⟨⟨vs, v, g2, h1⟩, fun y H2 hy => ?_⟩
    obtain ⟨T, z, rfl, hT, rfl, hy⟩ := hy
    have := hy vs g2
    rw [h1] at this
    cases this
    have e3 : Ext G.K ρ' ρ' H' (upd H' T (.tup [.int (i : Nat), v])) := Ext.side _ hT
    exact ⟨e3, hr.side _ hT, vr_tup.mpr ⟨T, _, rfl, upd_same, vrs_cons.mpr ⟨_, _, rfl, vr_int.mpr rfl, VRs.one (VR.mono e3 _ _ h2)⟩⟩⟩
  · rw [← g3.length]
    exact List.getElem?_eq_none_iff.mp hx
theorem snd_itE {tl : TA} {a : DA} (ha : SndA G E tl a) : SndI G E (iEnum G.K tl) (dItE a) := fun ρ σ H es eh Q rel h => by
  refine ha.bind rel h fun ρ1 H1 xs eh1 us e1 rel1 v1 h1 => ?_
  split at h1
  · rename_i n
    split at h1
    · rename_i ys e2
      obtain ⟨v, rfl, hv⟩ := vrs_one v1
      obtain ⟨a1, vs, g1, g2, g3⟩ := lst_of rel1.hr e2
      obtain ⟨a', q1, rfl⟩ := vr_ref.mp hv
      rw [g1] at q1; cases q1
      exact ⟨a1, vs, rfl, g2, h1 ρ1 H1 _ (Ext.refl _ _ _) rel1.hr (jr_enum g1)⟩
    · exact h1.elim
  · exact h1.elim
theorem xi_enum {elts : List Expr} {kk : Nat} {tpos p pos : Pos} {e : Expr} {d : DA} (hg : Gl X "enumerate") (hm : X.mg "enumerate" = none) (ha : PAd X ct E [e] d) (hs : starEach [e] X.env = [(false, eval e X.env)] := by rfl) :
    PId X ct E (.Tuple elts kk tpos) (.Call (.Name "enumerate" p) [e] [] pos) (dItE d) := by
  obtain ⟨t, h1, h2⟩ := ha
  exact ⟨_, pi_enum hg hm h1 hs, snd_itE h2⟩
end
section
variable {prog : Program} {w : World} {A : Around} {E : Value → Shared → Prop} {s : Shared}
theorem draw_list {it t : Addr} {items : Array Value} (hne : t ≠ it) : ∀ (n i : Nat) (s : Shared) (Q : List Value → Shared → Prop), s.heap.IsListIter it t i → s.heap.IsList t items → i + n ≤ items.size →
    (∀ h', h'.IsListIter it t (i + n) → Heap.SameBut it s.heap h' → Q ((items.toList.drop i).take n) { s with heap := h' }) → wpAny (model prog w) A (draw (.ref it) n) Q E s
  | 0, i, s, Q, hit, _, _, hQ => by
    show wpAny _ _ (pure []) Q E s
    exact wpAny_pure (by simpa using hQ s.heap hit (Heap.SameBut.refl ..))
  | n + 1, i, s, Q, hit, ht, hle, hQ => by
    have hlt : i < items.size := by omega
    show wpAny _ _ (pyNext (.ref it) >>= _) Q E s
    refine wpAny_bind (wpAny_pyNext_list_item hit ht (x := items[i]) (by simp [hlt]) fun h₁ hit₁ hs₁ => ?_)
    refine wpAny_bind (wpAny_holding (draw_list hne n (i + 1) _ _ hit₁ (ht.extBut hs₁.extBut hne) (by omega) fun h₂ hit₂ hs₂ => wpAny_pure ?_))
    have hd : items.toList.drop i = items[i] :: items.toList.drop (i + 1) := by simp [List.drop_eq_getElem_cons, hlt]
    have := hQ h₂ (by rw [show i + (n + 1) = i + 1 + n by omega]; exact hit₂) (hs₁.trans hs₂)
    rw [hd, List.take_succ_cons] at this
    exact this
theorem walks_restL (hh : A.handled = none) (Ia t : Addr) (ne : t ≠ Ia) (items : Array Value) (i0 : Nat) (h0 : i0 ≤ items.size) :
    Walks prog w A Ia [Ia, t] [Ia] (items.size - i0) (fun j v => items[i0 + j]? = some v) (fun j h => h.IsListIter Ia t (i0 + j) ∧ h.IsList t items) where
  sub := fun b hb => by
    rw [List.mem_singleton.mp hb]
    exact List.mem_cons_self
  frame := fun j h h' st k => ⟨st.1.at fun o e => k Ia (by simp) o e, st.2.at fun o e => k t (by simp) o e⟩
  item := fun j s Q E hj st hQ => by
    have hlt : i0 + j < items.size := by omega
    refine wpAny_pyNext_list_item st.1 st.2 (x := items[i0 + j]) (by simp [hlt]) fun h1 hit hs => ?_
    exact hQ _ h1 s.toks (by simp [hlt]) ⟨hit, st.2.extBut hs.extBut ne⟩ fun b o hb e => hs.extBut b o (fun z => hb (by simp [z])) e
  done := fun s Q E st hQ => wpAny_pyNext_list_end hh st.1 st.2 (Array.getElem?_eq_none (by omega)) fun h1 he => hQ h1 s.toks fun b o hb e => he b o (fun z => hb (by simp [z])) e
  self := fun j s Q E st h => wpAny_pyIter_listiter st.1 h
theorem unpack_restL {t : Addr} {items : List Value} {i0 : Nat} {Q : List Value → Shared → Prop} (hh : A.handled = none) (ht : s.heap.IsList t items.toArray) (h0 : i0 ≤ items.length) (hz : items.length ≤ sizeLine)
    (hQ : ∀ (h2 : Heap) (tk : Nat), (∀ b o, s.heap.get? b = some o → h2.get? b = some o) → Q (items.take i0 ++ [.ref h2.objs.size]) { s with heap := h2.push { cls := .type "list", data := .seq (items.drop i0).toArray }, toks := tk }) :
    wpAny (model prog w) A (unpackItems (.ref t) (i0 + 1) (some i0)) Q E s := by
  have hlt : t ≠ s.heap.objs.size := by
    obtain ⟨o, ho, _⟩ := ht
    exact Nat.ne_of_lt (Heap.lt_size ho)
  unfold unpackItems
  refine wpAny_bind (m := notIterableAtAll _) ?_
  unfold notIterableAtAll
  refine wpAny_bind (wpAny_specialOf ht.typeIs slot_list_iter.lookup (wpAny_pure ?_))
  simp only [Bool.false_eq_true, if_false]
  refine wpAny_bind (wpAny_holding (wpAny_pyIter_list ht ?_))
  refine wpAny_bind (wpAny_holding (draw_list hlt i0 0 _ _ ⟨_, Heap.get?_push_size _ rfl, rfl, rfl⟩ (ht.at fun o e => Heap.get?_push_of_some _ e) (by simpa using h0) fun h1 hit1 sb1 => ?_))
  have e1 : List.take i0 (List.drop 0 items.toArray.toList) = items.take i0 := by simp
  rw [e1, if_neg (by rw [List.length_take]; omega)]
  have ht1 : h1.IsList t items.toArray := (ht.at fun o e => Heap.get?_push_of_some _ e).extBut sb1.extBut hlt
  rw [Nat.zero_add] at hit1
  have hsz : s.heap.objs.size < h1.objs.size := by
    obtain ⟨o, ho, _⟩ := hit1
    exact Heap.lt_size ho
  refine wpAny_bind (wpAny_holding (wpAny_collect_iter (T := "list_iterator") (by simp) (walks_restL (A := A.in1) hh s.heap.objs.size t hlt items.toArray i0 (by simpa using h0)).toS (fun j s' st => ?_) ⟨by rw [Nat.add_zero]; exact hit1, ht1⟩ (fun b hb => ?_) (by simp) (fun s2 acc hm hacc => ?_) (by simp; omega)))
  · obtain ⟨⟨o, ho, hc, _⟩, _⟩ := st
    exact ⟨o, ho, hc⟩
  · rcases List.mem_cons.mp hb with e | hb
    · rw [e]
      exact hsz
    · rw [List.mem_singleton.mp hb]
      obtain ⟨o, ho, _⟩ := ht1
      exact Heap.lt_size ho
  · have ea : acc.toList = items.drop i0 := by
      have hl : acc.size = items.length - i0 := by simpa using hacc.1
      apply List.ext_getElem?
      intro j
      rw [List.getElem?_drop]
      cases hj : acc.toList[j]? with
      | none =>
        have := List.getElem?_eq_none_iff.mp hj
        rw [Array.length_toList] at this
        exact (List.getElem?_eq_none (by omega)).symm
      | some v =>
        have := hacc.2 j v (by rw [← Array.getElem?_toList]; exact hj)
        simpa using this.symm
    rw [ea, show i0 + 1 - 1 - i0 = 0 by omega, if_neg (by omega), Nat.sub_zero, List.take_length, List.drop_length]
    simp only [List.append_nil]
    refine wpAny_bind (wpAny_newList (wpAny_pure ?_) (by rw [List.length_drop]; omega))
    have hk : ∀ b o, s.heap.get? b = some o → s2.heap.get? b = some o := fun b o e => by
      have n : b ≠ s.heap.objs.size := Nat.ne_of_lt (Heap.lt_size e)
      exact hm.heap b o (by simpa using n) ((sb1.2 b n).trans (Heap.get?_push_of_some _ e))
    rw [Moved.eq_with hm]
    exact hQ _ _ hk
end
def gStarL (K : Fg) (i0 : Nat) (t : TGs) : TG := fun v σ H Q => ∃ a xs, v = V.ref a ∧ SqL K H a xs ∧ i0 ≤ xs.length ∧ ∀ l, H l = none → t (xs.take i0 ++ [.ref l]) σ (upd H l (.lst (xs.drop i0))) Q
def dGStarL (i0 : Nat) (r : DGs) : DG := fun x es h => match x with
  | .ref n => match lstAt h n with
    | some xs => if i0 ≤ xs.length then r (xs.take i0 ++ [.ref h.length]) es (h ++ [.lst (xs.drop i0)]) else .no
    | none => .no
  | _ => .no
section
variable {X : Cx} {ct : Nat → Addr × List Str} {E : XK} {G : Gx} {e : Expr} {es : List Expr} {pos p : Pos}
theorem pg_tupStarL {k i0 : Nat} {t : TGs} (hc : X.calm = true) (h : PGs X es t) (hn : (assignEach es X.env).length = i0 + 1 := by rfl) (hst : (assignEach es X.env).findIdx? (·.1) = some i0 := by rfl) : PG X (.Tuple es k pos) (gStarL X.K i0 t) := by
  refine ⟨fun pins s σ H v u Q I r hw => ?_⟩
  obtain ⟨a, xs, rfl, hq, hl, hw⟩ := hw
  cases r
  obtain ⟨its, rv, ht, hz⟩ := I.list hq
  have hlen := rv.length
  rw [assign_Tuple]
  refine wpAny_bind (wpAny_standAt ?_)
  unfold unpack
  rw [hn, hst]
  refine wpAny_bind (wpAny_holding (unpack_restL (I.ok.hd hc) ht.isList (by omega) (by omega) fun h2 tk hk => ?_))
  have I2 : L2.Inv X pins σ H { s with heap := h2, toks := tk } := I.kept hk
  have hf : H h2.objs.size = none := I2.hok.fresh (Nat.le_refl _)
  have new : ObjOk X.prog X.w (upd H h2.objs.size (.lst (xs.drop i0))) (h2.push { cls := .type "list", data := .seq (its.drop i0).toArray }) h2.objs.size (.lst (xs.drop i0)) :=
    ⟨by rw [List.length_drop]; omega, its.drop i0, 0, vals_drop rv i0, Heap.get?_push_size _ rfl⟩
  have I3 : L2.Inv X pins σ (upd H h2.objs.size (.lst (xs.drop i0))) { s with heap := h2.push { cls := .type "list", data := .seq (its.drop i0).toArray }, toks := tk } :=
    I2.laid (t' := tk) (fun b o e => Heap.get?_push_of_some _ e) (Nat.le_refl _) new
  exact h.run pins _ σ _ _ _ Q I3 ((vals_take rv i0).append (.cons (a := V.ref h2.objs.size) rfl .nil)) (hw _ hf)
theorem snd_gstarL {i0 : Nat} {u : TGs} {ds : DGs} (h2 : SndGs G E u ds) : SndG G E (gStarL G.K i0 u) (dGStarL i0 ds) := fun ρ σ H es eh x us Q rel hx h => by
  unfold dGStarL at h
  split at h
  · rename_i n
    split at h
    · rename_i xs e1
      split at h
      · rename_i hl
        obtain ⟨a, vs, g1, g2, g3⟩ := lst_of rel.hr e1
        obtain ⟨a', q1, rfl⟩ := vr_ref.mp hx
        rw [g1] at q1; cases q1
        refine ⟨a, vs, rfl, g2, by rw [← g3.length]; exact hl, fun l hn => ?_⟩
        have e1 : Ext G.K ρ (ρ ++ [(true, l)]) H (upd H l (.lst (vs.drop i0))) := Ext.alloc _ hn
        have hr := rel.hr.alloc (u := .lst (vs.drop i0)) (o := .lst (xs.drop i0)) hn rfl ⟨_, upd_same, VRs.mono e1 _ _ (g3.drop i0)⟩
        exact h2 (ρ ++ [(true, l)]) σ _ es _ _ _ Q (rel.ext e1 hr) ((VRs.mono e1 _ _ (g3.take i0)).append (VRs.one (vr_ref.mpr ⟨l, last_get rel.hr.len, rfl⟩))) (h.mono e1)
      · exact h.elim
    · exact h.elim
  · exact h.elim
theorem xg_starL {k i0 : Nat} {d : DGs} (hc : X.calm = true) (h : PGsd X ct E es d) (hn : (assignEach es X.env).length = i0 + 1 := by rfl) (hst : (assignEach es X.env).findIdx? (·.1) = some i0 := by rfl) : PGd X ct E (.Tuple es k pos) (dGStarL i0 d) := by
  obtain ⟨t, a1, a2⟩ := h
  exact ⟨_, pg_tupStarL hc a1 hn hst, snd_gstarL a2⟩
def dStarA (a : DE) (r : DA) : DA := fun es h => (a es h).bind fun x h1 => match itemsE h1 x with
  | some ys => (r es h1).bind fun xs h2 => .ok (ys ++ xs) h2
  | none => .no
theorem xa_star {d : DE} {dr : DA} (he : PEd X ct E e d) (hr : PAd X ct E es dr) (hs : starEach (.Starred e p :: es) X.env = (true, eval e X.env) :: starEach es X.env := by rfl) : PAd X ct E (.Starred e p :: es) (dStarA d dr) := by
  obtain ⟨t, a1, a2⟩ := he
  obtain ⟨u, b1, b2⟩ := hr
  refine ⟨_, StX.pa_star a1 b1 hs, fun ρ σ H es eh Q rel h => ?_⟩
  refine a2.bind rel h fun ρ1 H1 x eh1 v e1 rel1 v1 h1 => ?_
  split at h1
  · rename_i ys hys
    obtain ⟨b, vs, rfl, j1, j2⟩ := items_of rel1.hr v1 hys
    refine ⟨b, vs, rfl, j1, ?_⟩
    refine b2.bind rel1 h1 fun ρ2 H2 xs eh2 us e2 rel2 v2 h2 => ?_
    exact h2 ρ2 H2 _ (Ext.refl _ _ _) rel2.hr ((VRs.mono e2 _ _ j2).append v2)
  · exact h1.elim
def fSlT : EV → Option Int → Option Int → EH → Res EV := fun x lo hi h => match x with
  | .tup xs => if ¬ (HT.sIx xs.length 0 lo = 0 ∧ HT.sIx xs.length xs.length hi = xs.length) then .ok (.tup (cutE xs lo hi)) h else .no
  | _ => .no
theorem xe_sliceT {a : Expr} {lo hi : Option Expr} {p2 pos : Pos} {da : DE} {dl dh : ES → EH → Res (Option Int)} (ha : PEd X ct E a da) (hl : POd X ct E lo dl) (hh : POd X ct E hi dh) : PEd X ct E (.Subscript a (.Slice lo hi none p2) pos) (dSl fSlT da dl dh) := by
  obtain ⟨t, h1, h2⟩ := ha
  obtain ⟨tl, l1, l2⟩ := hl
  obtain ⟨th, k1, k2⟩ := hh
  refine ⟨_, pe_slice sl_tup h1 l1 k1, fun ρ σ H es eh Q rel h => ?_⟩
  refine h2.bind rel h fun ρ1 H1 x eh1 u e1 rel1 v1 h1 => ?_
  refine l2.bind rel1 h1 fun ρ2 H2 l eh2 l' e2 rel2 v2 h2 => ?_
  refine k2.bind rel2 h2 fun ρ3 H3 k eh3 k' e3 rel3 v3 h3 => ?_
  cases v2
  cases v3
  have v1' := (v1.mono e2).mono e3
  unfold fSlT at h3
  split at h3
  · rename_i xs
    split at h3
    · rename_i hw
      obtain ⟨a1, vs, rfl, g2, g3⟩ := vr_tup.mp v1'
      refine ⟨a1, vs, rfl, SqT.of g2, by rw [← g3.length]; exact hw, fun p hp => ?_⟩
      have e4 : Ext X.K ρ3 ρ3 H3 (upd H3 p (.tup (cutV vs l k))) := Ext.side _ hp
      refine h3 ρ3 _ _ e4 (rel3.hr.side _ hp) (vr_tup.mpr ⟨p, _, rfl, upd_same, VRs.mono e4 _ _ ?_⟩)
      unfold cutE cutV
      rw [← g3.length]
      exact (g3.drop _).take _
    · exact h3.elim
  · exact h3.elim
end
def entOf (e : DictEntry) : Option (Str × Int × Int) := match e.key, e.val with
  | .str x _, .int i _ => some (x, e.hash, i)
  | _, _ => none
def tabW (K : PySem.W.Frag) (a : Addr) : Option (List (Option (Str × Int × Int))) := match K.lookup a with
  | some ⟨.type c, none, .dict es _, sl⟩ => (match decide (c = "dict") && (sl.isEmpty && !(a == sysModules)) with
    | true => some (es.toList.map entOf)
    | false => none)
  | _ => none
def tabIn (P : Params) (ks : List (Str × Int)) : List (Option (Str × Int × Int)) := ks.map fun k => some (k.1, PyData.keyHash P k.1, k.2)
def KTab (K : Fg) (w : World) (a : Addr) (tab : List (Str × Int)) : Prop := tabW K a = some (tabIn w.params tab)
theorem ent_lit {P : Params} : ∀ {l : List DictEntry} {ks : List (Str × Int)}, l.map entOf = tabIn P ks → PySem.W.KeysLit P l
  | [], _, _ => trivial
  | e :: r, [], h => by cases h
  | e :: r, k :: ks, h => by
    have h1 : entOf e :: r.map entOf = some (k.1, PyData.keyHash P k.1, k.2) :: tabIn P ks := h
    injection h1 with h2 h3
    refine ⟨?_, ent_lit h3⟩
    unfold entOf at h2
    split at h2
    · rename_i x t i t' q1 q2
      have h4 := Option.some.inj h2
      obtain ⟨h5, h6⟩ := Prod.mk.inj h4
      obtain ⟨h6, h7⟩ := Prod.mk.inj h6
      exact ⟨x, t, q1, by rw [h6, h5]⟩
    · cases h2
theorem ent_find {P : Params} (x : Str) : ∀ {l : List DictEntry} {ks : List (Str × Int)}, l.map entOf = tabIn P ks →
    match ks.lookup x with
    | some i => ∃ e t, l.find? (·.key.isStr x) = some e ∧ e.val = .int i t
    | none => l.find? (·.key.isStr x) = none ∧ l.any (·.refKey) = false
  | [], [], _ => ⟨rfl, rfl⟩
  | [], _ :: _, h => by cases h
  | e :: r, [], h => by cases h
  | e :: r, k :: ks, h => by
    have h1 : entOf e :: r.map entOf = some (k.1, PyData.keyHash P k.1, k.2) :: tabIn P ks := h
    injection h1 with h2 h3
    have ih := ent_find x h3
    unfold entOf at h2
    split at h2
    · rename_i y t i t' q1 q2
      have h4 := Option.some.inj h2
      obtain ⟨h5, h6⟩ := Prod.mk.inj h4
      obtain ⟨h6, h7⟩ := Prod.mk.inj h6
      obtain ⟨ky, ki⟩ := k
      simp only at h5 h7
      subst h5 h7
      by_cases hx : x = y
      · subst hx
        rw [List.lookup_cons_self]
        refine ⟨e, t', ?_, q2⟩
        rw [List.find?_cons_of_pos]
        rw [q1]
        exact beq_self_eq_true x
      · have hb : (x == y) = false := beq_eq_false_iff_ne.mpr hx
        have hk : e.key.isStr x = false := by
          rw [q1]
          show (y == x) = false
          exact beq_eq_false_iff_ne.mpr fun z => hx z.symm
        rw [List.lookup_cons, hb]
        simp only
        cases hl : ks.lookup x with
        | some j =>
          rw [hl] at ih
          obtain ⟨e', t2, f1, f2⟩ := ih
          exact ⟨e', t2, by rw [List.find?_cons_of_neg (by rw [hk]; simp)]; exact f1, f2⟩
        | none =>
          rw [hl] at ih
          refine ⟨by rw [List.find?_cons_of_neg (by rw [hk]; simp)]; exact ih.1, ?_⟩
          rw [List.any_cons, ih.2, Bool.or_false]
          unfold DictEntry.refKey
          rw [q1]
    · cases h2
theorem ktab_ok {K : Fg} {w : World} {a : Addr} {tab : List (Str × Int)} (h : KTab K w a tab) : ∃ es n, K.lookup a = some ⟨.type "dict", none, .dict es n, #[]⟩ ∧ PySem.W.KeysLit w.params es.toList ∧ (a == sysModules) = false ∧
    ∀ x, match tab.lookup x with
      | some i => ∃ t, PySem.W.nsIn K a x = some (some (.int i t))
      | none => PySem.W.nsIn K a x = some none := by
  unfold KTab tabW at h
  split at h
  · rename_i c es n sl q
    split at h
    · rename_i z
      simp only [Bool.and_eq_true, decide_eq_true_eq, Bool.not_eq_true'] at z
      obtain ⟨rfl, z2, z3⟩ := z
      have e2 : sl = #[] := Array.isEmpty_iff.mp z2
      subst e2
      have hm := Option.some.inj h
      refine ⟨es, n, q, ent_lit hm, z3, fun x => ?_⟩
      have f := ent_find x hm
      have hn : PySem.W.nsIn K a x = (match es.toList.find? (·.key.isStr x) with
        | some e => some (some e.val)
        | none => if es.toList.any (·.refKey) then none else some none) := by
        unfold PySem.W.nsIn
        rw [q]
        rfl
      cases hl : tab.lookup x with
      | some i =>
        rw [hl] at f
        obtain ⟨e, t, f1, f2⟩ := f
        refine ⟨t, ?_⟩
        rw [hn, f1]
        simp only
        rw [f2]
      | none =>
        rw [hl] at f
        show PySem.W.nsIn K a x = some none
        rw [hn, f.1]
        simp only
        rw [f.2]
        rfl
    · cases h
  · cases h
theorem ktab_of {K : Fg} {w : World} {a : Addr} {tab : List (Str × Int)} {es : Array DictEntry} {n : Nat} (hl : K.lookup a = some ⟨.type "dict", none, .dict es n, #[]⟩) (hs : (a == sysModules) = false) (he : es.toList.map entOf = tabIn w.params tab) : KTab K w a tab := by
  unfold KTab tabW
  rw [hl]
  simp only [decide_true, Array.isEmpty_empty, hs, Bool.not_false, Bool.and_self, he]
def tKGet (tab : List (Str × Int)) (te : TE) : TE := fun σ H Q => te σ H fun y H1 => ∃ x, y = .str x ∧ Q (match tab.lookup x with
  | some i => .int i
  | none => .non) H1
def dKGet (tab : List (Str × Int)) (a : DE) : DE := fun es h => (a es h).bind fun x h1 => match x with
  | .str s => .ok (match tab.lookup s with
    | some i => .int i
    | none => .non) h1
  | _ => .no
section
variable {X : Cx} {ct : Nat → Addr × List Str} {E : XK} {G : Gx} {e : Expr} {p apos cpos : Pos} {x : Str} {tab : List (Str × Int)}
theorem pe_kget {te : TE} (hg : Gl X x) (hm : ∃ a, X.mg x = some (.ref a) ∧ KTab X.K X.w a tab) (he : PE X e te) (hd : (x == ("__debug__" : Str)) = false := by decide)
    (hs : starEach [e] X.env = [(false, eval e X.env)] := by rfl) (hbase : attributeBase (.Name x p) "get" X.env (eval (.Name x p) X.env) = eval (.Name x p) X.env := by rfl) (hline : (apos.endLine == cpos.line) = true := by rfl) :
    PE X (.Call (.Attribute (.Name x p) "get" apos) [e] [] cpos) (tKGet tab te) := by
  obtain ⟨a, hm, hk⟩ := hm
  obtain ⟨es, n, hl, hlit, low, hf⟩ := ktab_ok hk
  refine ⟨fun pins s σ H Q I h => ?_⟩
  have hn : PE X (.Name x p) (tC (.ref a)) := pe_glob (v := .ref a) hg hm rfl hd
  refine PySem.Call_method1 hbase hs hline (thn (hn.run pins s σ H (fun v H1 => v = .ref a ∧ tKGet tab te σ H1 Q) I (show V.ref a = .ref a ∧ tKGet tab te σ H Q from ⟨rfl, h⟩)) fun v s1 ⟨y, H1, I1, r1, q0, q1⟩ => ?_)
  subst q0
  obtain rfl : v = Value.ref a := r1
  have ho := I1.kIn _ _ hl
  have hty : s1.TypeIs (.ref a) "dict" := ⟨_, ho, rfl⟩
  refine ⟨"dict", _, PySem.F.plainAttrs_dict, PySem.F.slot_dict_get, PySem.F.type_dict_get, hty, (fun b q => by cases q; exact ⟨_, ho, rfl⟩), Calls.callWith_builtin rfl (Calls.evalArgs_plain (Calls.spliced_cons ?_))⟩
  refine thn (he.run pins s1 σ H1 _ I1 q1) fun u s2 ⟨y, H2, I2, r2, z, ey, q2⟩ => Calls.spliced_nil ?_
  subst ey
  obtain ⟨t, rfl⟩ := (show ∃ t, u = Value.str z t from r2)
  have hm' := PySem.W.mapOf_K (prog := X.prog) (w := X.w) I2.kIn hl hlit
  refine call_meetsIn PySem.F.slot_dict_get hm'.typeIs PySem.F.entry_dict_get (PySem.F.args_dict_get_2 _ _) (meets_dict_get (strKind X.prog X.w) a (strKind_is X.prog X.w z t) low) ⟨_, hm', ?_⟩
  have hz := hf z
  cases hz1 : tab.lookup z with
  | some i =>
    rw [hz1] at hz q2
    obtain ⟨t', e1⟩ := hz
    rw [PySem.W.find_K hl e1]
    exact ⟨.int i, H2, I2.tok _, ⟨t', rfl⟩, q2⟩
  | none =>
    rw [hz1] at hz q2
    rw [PySem.W.find_K hl hz]
    exact ⟨.non, H2, I2.tok _, rfl, q2⟩
theorem xe_kget {d : DE} (hg : Gl X x) (hm : ∃ a, X.mg x = some (.ref a) ∧ KTab X.K X.w a tab) (he : PEd X ct E e d) (hd : (x == ("__debug__" : Str)) = false := by decide)
    (hs : starEach [e] X.env = [(false, eval e X.env)] := by rfl) (hbase : attributeBase (.Name x p) "get" X.env (eval (.Name x p) X.env) = eval (.Name x p) X.env := by rfl) (hline : (apos.endLine == cpos.line) = true := by rfl) :
    PEd X ct E (.Call (.Attribute (.Name x p) "get" apos) [e] [] cpos) (dKGet tab d) := by
  obtain ⟨t, a1, a2⟩ := he
  refine ⟨_, pe_kget hg hm a1 hd hs hbase hline, fun ρ σ H es eh Q rel h => ?_⟩
  refine a2.bind rel h fun ρ1 H1 y eh1 u e1 rel1 v1 h1 => ?_
  split at h1
  · rename_i s
    refine ⟨s, vr_str.mp v1, h1 ρ1 H1 _ (Ext.refl _ _ _) rel1.hr ?_⟩
    cases tab.lookup s with
    | some i => exact vr_int.mpr rfl
    | none => exact vr_non.mpr rfl
  · exact h1.elim
end
end EE
set_option Elab.async false
set_option linter.all false
set_option maxRecDepth 100000
set_option maxHeartbeats 1000000
namespace EE
open PySem PySem.Spec PyProof.Rows L2
def spD1 (G : Gx) (f : DL) : Sp := fun vs H Q E => ∃ ρ xs eh, VRs G.K ρ H xs vs ∧ HR G ρ H eh ∧ wr G (VR G.K) ρ H (f xs eh) Q E
def dCallX (f : DL) (a : DA) : DE := fun es h => (a es h).bind fun xs h1 => f xs h1
def dRaise (c : Nat) : DS := fun _ h => .er ⟨c, []⟩ h
abbrev TkE (X : Cx) (E : XK) : Prop := Takes X (fun cls d _ H => E cls d H)
structure XcD (K : Fg) (mg : Str → Option Value) (cn : Addr × List Str) (x : Str) : Prop where
  own : cn.2 = []
  ex : PySem.W.excIn K cn.1 [.type "ValueError", .type "Exception", .type "BaseException", .type "object"] "ValueError.__new__" = true
  g : mg x = some (.ref cn.1)
  k : PySem.W.keepIn K (.ref cn.1) = true
  b : PySem.W.subIn K (.ref cn.1) (.type "BaseException") = some true
  t : PySem.W.typeIn K (.ref cn.1) = some (.type "type")
section
variable {P : Program} {w : World} {K : Fg} {mg : Str → Option Value} {base : Heap} {ct : Nat → Addr × List Str}
theorem fn_dx {x qual : Str} {st : Stmt} {f : Addr} {fd : FuncData} {N ps : List Str} {k : Nat} {d : DS} (F : Fun K x qual st f fd) (S : FnScope N ps (defScope st))
    (h : ∀ (cdv : Value) (A : Around) (outer : List Env) (s : Shared) (H : Hp) (E : XK), Room k (A.deeper (envOfC qual (defScope st) s.heap.objs.size f cdv)) → TkE (cxOf (L2.CX P w) P w K mg base N qual (defScope st) f cdv A outer s H E) E →
      PSsd (cxOf (L2.CX P w) P w K mg base N qual (defScope st) f cdv A outer s H E) ct E (defBody st) d) :
    FnOk P w K mg base (L2.CX P w) (k + 1) f fd ps (spD1 ⟨K, ct⟩ (dDef ps.length N.length d)) := by
  refine F.okX S (fun vs H Q E hs => ?_) fun cdv A outer s H vs Q E hr hs => ?_
  · obtain ⟨ρ, xs, eh, h1, h2, h3⟩ := hs
    rw [← h1.length]
    unfold dDef at h3
    split at h3
    · assumption
    · exact h3.elim
  · obtain ⟨ρ, xs, eh, h1, h2, h3⟩ := hs
    obtain ⟨t, b1, b2⟩ := h cdv A outer s H E hr (takes_of rfl rfl rfl rfl)
    refine ⟨t, b1, b2 ρ (L2.start N vs) H _ eh _ ⟨sr_start N h1, h2⟩ ?_⟩
    unfold dDef at h3
    split at h3
    · cases q : d (xs.map some ++ List.replicate (N.length - xs.length) none) eh with
      | no => rw [q] at h3; exact h3
      | er z h' => rw [q] at h3; exact h3
      | ok fl h' =>
        rw [q] at h3
        intro ρ' H' vf e hr' rf
        cases fl with
        | nx es' =>
          cases vf with
          | nx σ' => exact h3 ρ' H' .non e hr' (vr_non.mpr rfl)
          | _ => exact rf.elim
        | rt v =>
          cases vf with
          | rt u => exact h3 ρ' H' u e hr' rf
          | _ => exact rf.elim
        | bk _ => exact h3.elim
        | ct _ => exact h3.elim
    · exact h3.elim
def FnDX (P : Program) (w : World) (K : Fg) (mg : Str → Option Value) (base : Heap) (ct : Nat → Addr × List Str) (k : Nat) (x : Str) (fn : DL) : Prop :=
  ∃ f fd ps, FnOk P w K mg base (L2.CX P w) k f fd ps (spD1 ⟨K, ct⟩ fn) ∧ mg x = some (.ref f) ∧ PySem.W.keepIn K (.ref f) = true ∧ Binds K fd ps []
theorem FnDX.mono {j k : Nat} {x : Str} {fn : DL} (F : FnDX P w K mg base ct j x fn) (h : j ≤ k) : FnDX P w K mg base ct k x fn := by
  obtain ⟨f, fd, ps, h1, h2⟩ := F
  exact ⟨f, fd, ps, h1.mono h, h2⟩
theorem fndx_mk {x : Str} {st : Stmt} {N ps : List Str} {k : Nat} {d : DS} (T : Tx K mg x st ps) (S : FnScope N ps (defScope st))
    (h : ∀ (f : Addr) (cdv : Value) (A : Around) (outer : List Env) (s : Shared) (H : Hp) (E : XK), Room k (A.deeper (envOfC x (defScope st) s.heap.objs.size f cdv)) → TkE (cxOf (L2.CX P w) P w K mg base N x (defScope st) f cdv A outer s H E) E →
      PSsd (cxOf (L2.CX P w) P w K mg base N x (defScope st) f cdv A outer s H E) ct E (defBody st) d) :
    FnDX P w K mg base ct (k + 1) x (dDef ps.length N.length d) := by
  obtain ⟨f, fd, F, hm, hb⟩ := T
  exact ⟨f, fd, ps, fn_dx F S (h f), hm, F.kp, hb⟩
end
section
variable {X : Cx} {ct : Nat → Addr × List Str} {E : XK} {G : Gx} {e : Expr} {es : List Expr} {pos p p2 p3 : Pos} {dr : DA}
theorem xe_callX {k : Nat} {x : Str} {fn : DL} (F : FnDX X.prog X.w X.K X.mg X.base ct k x fn) (hr : Room k X.A) (tk : TkE X E) (hg : Gl X x) (ha : PAd X ct E (e :: es) dr) (hdb : (x == ("__debug__" : Str)) = false := by decide)
    (he : starEach (e :: es) X.env = (false, eval e X.env) :: starEach es X.env := by rfl) (hpl : (backTo pos (starEach es X.env)).any (·.1) = false := by rfl) : PEd X ct E (.Call (.Name x p) (e :: es) [] pos) (dCallX fn dr) := by
  obtain ⟨f, fd, ps, h1, hm, hk, hb⟩ := F
  obtain ⟨ta, a1, a2⟩ := ha
  refine ⟨_, pe_call h1 hr hg hm hk hb .nil (passes_call tk fun _ _ _ _ h => h) a1 hdb he hpl, fun ρ σ H es eh Q rel h => ?_⟩
  refine a2.bind rel h fun ρ1 H1 xs eh1 us e1 rel1 v1 h1 => ?_
  exact ⟨ρ1, xs, eh1, by rw [List.append_nil]; exact v1, rel1.hr, h1⟩
theorem xs_raise (c : Nat) {x m : Str} {j : Nat} (T : XcD X.K X.mg (ct c) x) (hc : X.calm = true) (tk : TkE X E) (hg : Gl X x) (hdb : (x == ("__debug__" : Str)) = false := by decide) :
    PSd X ct E (.Raise (some (.Call (.Name x p) [.Constant (.str m) j p2] [] pos)) none p3) (dRaise c) := by
  refine ⟨_, ps_raise hc tk (pmk_own PySem.F.excBase_ValueError T.ex T.g T.k (raises_own T.b T.t) hg hdb), fun ρ σ H es eh D rel h => ?_⟩
  exact h ρ H (.ref (ct c).1) none (Ext.refl _ _ _) rel.hr ⟨rfl, rfl⟩
end
end EE
set_option Elab.async false
set_option linter.all false
set_option maxRecDepth 100000
set_option maxHeartbeats 1000000
namespace EE
open PySem PySem.Spec PyProof.Rows L2
structure XiD (K : Fg) (C : Addr) : Prop where
  cl : (PySem.W.clsIn K C).isSome = true
  ga : PySem.W.findIn K (.ref C) "__getattribute__" = some (some (.builtin "BaseException.__getattribute__"))
  gg : PySem.W.findIn K (.ref C) "__getattr__" = some none
  sb : PySem.W.subIn K (.ref C) (.type "BaseException") = some true
  cc : PySem.W.findIn K (.ref C) "__class__" = some (some (.builtin "object.__class__"))
  gs : PySem.W.specialIn K (.builtin "object.__class__") "__get__" = some (some (.builtin "getset_descriptor.__get__"))
  tk : PySem.W.takesIn K (.builtin "object.__class__") = some true
  ob : PySem.W.mroIn K C (.type "object") = some true
def rIsX (K : Fg) (D a : Addr) (d : Option Addr) : List V → Hp → VK → Prop := fun xs H Q => ∃ (c : V) (cv : Value) (b : Bool), xs = [.ref a, c] ∧ (∀ u, RelV c u → u = cv) ∧ PySem.W.kitOne K (.ref D) cv = some b ∧ (∀ dd, d = some dd → ∃ fs, H dd = some (.xd fs)) ∧ Q (.bl b) H
theorem call_isX {X : Cx} {a D : Addr} {d : Option Addr} {oe : Obj} {pn : List (Addr × Obj)} (C : XiD X.K D) (hz : Zc (.ref D) d oe) (hf : ∃ vs, oe.data = .fields vs) : CallR (X.suite a ((a, oe) :: pn)) (.builtin "isinstance") (rIsX X.K D a d) := by
  intro pins s σ H xs us Q I r h
  obtain ⟨c, cv, b, rfl, hcv, e, hd, q⟩ := h
  cases r with
  | cons rx rr =>
    cases rr with
    | cons rt rr =>
      cases rr
      cases rx
      have ec := hcv _ rt
      subst ec
      obtain ⟨hget, _⟩ := I.pin (a, oe) (List.mem_append.mpr (.inl List.mem_cons_self))
      obtain ⟨vs, hv⟩ := hf
      have J : ∃ od, PySem.W.InstAt s.heap a oe D od := by
        obtain ⟨oc, od, oda, osl⟩ := oe
        obtain ⟨h1, h2⟩ := hz
        dsimp only at h1 h2 hv
        subst h1 h2 hv
        cases od with
        | none => exact ⟨none, hget, rfl, rfl, trivial⟩
        | some dd =>
          obtain ⟨fs, hx⟩ := hd dd rfl
          have hx' : ObjOk X.prog X.w H s.heap dd (.xd fs) := I.hok dd _ hx
          obtain ⟨mA, ⟨o, _, _, ho, _⟩, _⟩ := hx'
          exact ⟨some o, hget, rfl, rfl, ho⟩
      obtain ⟨od, J⟩ := J
      exact PySem.W.kia_one (PySem.W.kitx_exc C.cl C.ga C.gg C.sb C.cc C.gs C.tk C.ob) I.kIn J e (fun z => nomatch z) fun tk => ⟨.bl b, H, I.kept (t' := tk) fun _ _ z => z, rfl, q⟩
def dIsX (a : Addr) (d : Option Addr) (i : Nat) (b : Bool) : DE := fun es h => match es[i]? with
  | some (some (.exc a' d' _ _)) => if a' = a ∧ d' = d then .ok (.bl b) h else .no
  | _ => .no
def dXf (a : Addr) (d : Option Addr) (i : Nat) (f : Str) : DE := fun es h => match es[i]? with
  | some (some (.exc a' d' [n] [x])) => if a' = a ∧ d' = d ∧ n = f ∧ d.isSome then .ok x h else .no
  | _ => .no
section
variable {X : Cx} {ct : Nat → Addr × List Str} {E : XK} {a D : Addr} {d : Option Addr} {oe : Obj} {pn : List (Addr × Obj)} {n c f : Str} {p p1 p2 pos : Pos}
theorem snd_isX {G : Gx} {i : Nat} {c : V} {cv : Value} {b : Bool} (hcv : ∀ u, RelV c u → u = cv) (hk : PySem.W.kitOne G.K (.ref D) cv = some b) : SndE G E (tCB (rIsX G.K D a d) (tCons (tVar i) (tCons (tC c) tNil))) (dIsX a d i b) := fun ρ σ H es eh Q rel h => by
  unfold dIsX at h
  split at h
  · rename_i a' d' nm fs he
    split at h
    · rename_i hh
      obtain ⟨rfl, rfl⟩ := hh
      obtain ⟨u, h1, h2⟩ := rel.sl.2 i _ he
      obtain ⟨rfl, vs, h3, h4⟩ := vr_exc.mp h2
      exact ⟨_, h1, c, cv, b, rfl, hcv, hk, fun dd hd => ⟨_, h4 dd hd⟩, h ρ H _ (Ext.refl _ _ _) rel.hr (vr_bl.mpr rfl)⟩
    · exact h.elim
  · exact h.elim
theorem xe_isX (i : Nat) {b : Bool} {C' : Addr} (T : XiD X.K D) (hz : Zc (.ref D) d oe) (hf : ∃ vs, oe.data = .fields vs) (hg : Gl X "isinstance") (hm : X.mg "isinstance" = none) (hgc : Gl X c) (hmc : X.mg c = some (.ref C')) (hk : PySem.W.kitOne X.K (.ref D) (.ref C') = some b)
    (hN : X.N[i]? = some n := by rfl) (hv : Vis X.env.scope n := by first | exact Or.inl rfl | exact Or.inr (Or.inl rfl) | exact Or.inr (Or.inr rfl)) (hd : (n == ("__debug__" : Str)) = false := by decide) (hcd : (n == ("__classdict__" : Str)) = false := by decide) (hd2 : (c == ("__debug__" : Str)) = false := by decide)
    (he : starEach [.Name n p1, .Name c p2] X.env = (false, eval (.Name n p1) X.env) :: starEach [.Name c p2] X.env := by rfl) (hpl : (backTo pos (starEach [.Name c p2] X.env)).any (·.1) = false := by rfl) :
    PEd (X.suite a ((a, oe) :: pn)) ct E (.Call (.Name "isinstance" p) [.Name n p1, .Name c p2] [] pos) (dIsX a d i b) :=
  ⟨_, pe_callB (call_isX T hz hf) hg hm (by decide +kernel) (pa_cons (pe_var (i := i) hN hv hd hcd) (pa_cons (pe_glob (v := .ref C') hgc hmc rfl hd2) pa_nil)), snd_isX (fun u r => r) hk⟩
theorem xe_isXB (i : Nat) {b : Bool} {T' : String} (T : XiD X.K D) (hz : Zc (.ref D) d oe) (hf : ∃ vs, oe.data = .fields vs) (hg : Gl X "isinstance") (hm : X.mg "isinstance" = none) (hgc : Gl X c) (hmc : X.mg c = none) (hbc : bootBuiltins c = some (.type T')) (hk : PySem.W.kitOne X.K (.ref D) (.type T') = some b)
    (hN : X.N[i]? = some n := by rfl) (hv : Vis X.env.scope n := by first | exact Or.inl rfl | exact Or.inr (Or.inl rfl) | exact Or.inr (Or.inr rfl)) (hd : (n == ("__debug__" : Str)) = false := by decide) (hcd : (n == ("__classdict__" : Str)) = false := by decide) (hd2 : (c == ("__debug__" : Str)) = false := by decide) (hd3 : c ≠ "__name__" := by decide)
    (he : starEach [.Name n p1, .Name c p2] X.env = (false, eval (.Name n p1) X.env) :: starEach [.Name c p2] X.env := by rfl) (hpl : (backTo pos (starEach [.Name c p2] X.env)).any (·.1) = false := by rfl) :
    PEd (X.suite a ((a, oe) :: pn)) ct E (.Call (.Name "isinstance" p) [.Name n p1, .Name c p2] [] pos) (dIsX a d i b) :=
  ⟨_, pe_callB (call_isX T hz hf) hg hm (by decide +kernel) (pa_cons (pe_var (i := i) hN hv hd hcd) (pa_cons (pe_bltn (v := .ty T') hgc hmc hbc rfl hd3 hd2) pa_nil)), snd_isX (fun u r => r) hk⟩
theorem xe_xf (i : Nat) (T : XfC X.K D) (hno : PySem.W.findIn X.K (.ref D) f = some none) (hz : Zc (.ref D) d oe) (hf : ∃ vs, oe.data = .fields vs)
    (hN : X.N[i]? = some n := by rfl) (hv : Vis X.env.scope n := by first | exact Or.inl rfl | exact Or.inr (Or.inl rfl) | exact Or.inr (Or.inr rfl)) (hd : (n == ("__debug__" : Str)) = false := by decide) (hcd : (n == ("__classdict__" : Str)) = false := by decide)
    (hb : attributeBase (.Name n p1) f X.env (eval (.Name n p1) X.env) = eval (.Name n p1) X.env := by rfl) :
    PEd (X.suite a ((a, oe) :: pn)) ct E (.Attribute (.Name n p1) f pos) (dXf a d i f) := by
  refine ⟨_, pe_xf T hno hz hf (pe_var (i := i) hN hv hd hcd) hb, fun ρ σ H es eh Q rel h => ?_⟩
  unfold dXf at h
  split at h
  · rename_i a' d' n' x he
    split at h
    · rename_i hh
      obtain ⟨rfl, rfl, rfl, hs⟩ := hh
      obtain ⟨u, h1, h2⟩ := rel.sl.2 i _ he
      obtain ⟨rfl, vs, h3, h4⟩ := vr_exc.mp h2
      obtain ⟨w, rfl, h5⟩ := vrs_one h3
      obtain ⟨dd, rfl⟩ := Option.isSome_iff_exists.mp hs
      refine ⟨_, h1, rfl, rfl, dd, _, w, rfl, h4 dd rfl, ?_, h ρ H _ (Ext.refl _ _ _) rel.hr h5⟩
      simp [List.lookup]
    · exact h.elim
  · exact h.elim
end
def boolsE : List EV → Option (List Bool)
  | [] => some []
  | x :: xs => match x, boolsE xs with
    | .bl b, some bs => some (b :: bs)
    | _, _ => none
theorem boolsE_eq : ∀ {xs : List EV} {bs : List Bool}, boolsE xs = some bs → xs = bs.map EV.bl
  | [], bs, h => by cases h; rfl
  | x :: xs, bs, h => by
    unfold boolsE at h
    split at h
    · rename_i s ss' e
      cases h
      rw [List.map_cons, boolsE_eq e]
    · cases h
theorem VRs.of_bools {K : Fg} {ρ : Rho} {H : Hp} : ∀ {bs : List Bool} {vs : List V}, VRs K ρ H (bs.map EV.bl) vs → vs = bs.map V.bl
  | [], vs, h => vrs_nil.mp h
  | s :: ss, vs, h => by
    obtain ⟨v, r, rfl, h1, h2⟩ := vrs_cons.mp h
    rw [vr_bl.mp h1, VRs.of_bools h2]
    rfl
def trueAt : List Bool → Option Nat
  | [] => none
  | true :: _ => some 0
  | false :: bs => (trueAt bs).map (· + 1)
theorem trueAt_ok : ∀ {bs : List Bool} {j : Nat}, trueAt bs = some j → bs[j]? = some true ∧ ∀ m, m < j → bs[m]? = some false
  | [], _, h => by cases h
  | true :: _, j, h => by
    cases h
    exact ⟨rfl, fun m hm => absurd hm (Nat.not_lt_zero _)⟩
  | false :: bs, j, h => by
    unfold trueAt at h
    obtain ⟨i, hi, rfl⟩ := Option.map_eq_some_iff.mp h
    obtain ⟨h1, h2⟩ := trueAt_ok hi
    refine ⟨h1, fun m hm => ?_⟩
    cases m with
    | zero => rfl
    | succ m => exact h2 m (by omega)
def mCntB : EV → DL := fun x xs h => match x, xs with
  | .ref n, [.bl true] => match lstAt h n with
    | some ys => match boolsE ys with
      | some bs => .ok (.int (bs.count true : Nat)) h
      | none => .no
    | none => .no
  | _, _ => .no
def mIdxB : EV → DL := fun x xs h => match x, xs with
  | .ref n, [.bl true] => match lstAt h n with
    | some ys => match boolsE ys with
      | some bs => match trueAt bs with
        | some j => .ok (.int (j : Nat)) h
        | none => .no
      | none => .no
    | none => .no
  | _, _ => .no
def eqT (v : Value) : Bool := match v with
  | .bool b => b
  | _ => false
def rCntB (K : Fg) : V → List V → Hp → VK → Prop := fun x xs H Q => ∃ (p : Addr) (bs : List Bool), x = .ref p ∧ xs = [.bl true] ∧ SqL K H p (bs.map V.bl) ∧ Q (.int (bs.count true : Nat)) H
theorem vals_bools : ∀ {bs : List Bool} {us : List Value}, Vals (bs.map V.bl) us → us = bs.map Value.bool
  | [], us, h => by cases h; rfl
  | b :: bs, us, h => by
    cases h with
    | cons r1 r2 =>
      cases r1
      rw [List.map_cons, vals_bools r2]
section
variable {X : Cx} {ct : Nat → Addr × List Str} {E : XK} {G : Gx}
theorem mt_cntB : MtR X "list.count" (rCntB X.K) := by
  intro pins s σ H x xs v us Q I rx rxs h
  obtain ⟨p, bs, rfl, rfl, hs, q⟩ := h
  cases rx
  obtain ⟨u, rfl, ru⟩ := rxs.one
  cases ru
  obtain ⟨its, rv, ⟨⟨cls, dd, data, sl⟩, n, ho, hc, hdn, hd⟩, hlen⟩ := I.list hs
  simp only at hc hd
  subst hc hd
  have hb := vals_bools rv
  subst hb
  refine call_meets PySem.F.slot_list_count ⟨_, ho, rfl⟩ PySem.F.entry_list_count (PySem.F.args_list_count_2 _ _)
    (SeqAt.list_countAt p (bs.map Value.bool).toArray n dd sl (.bool true) eqT) ⟨ho, fun y hy => ?_, ?_⟩
  · have hm : y ∈ bs.map Value.bool := by simpa using hy
    obtain ⟨b, _, rfl⟩ := List.mem_map.mp hm
    have e : eqT (.bool b) = eqV (.bl b) (.bl true) := by cases b <;> rfl
    rw [e]
    exact eqAt_V (y := .bl b) (x := .bl true) (u := .bool b) (v := .bool true) rfl rfl rfl rfl
  · refine ⟨.int (bs.count true : Nat), H, I.tok _, ⟨s.toks, ?_⟩, q⟩
    have ec : (bs.map Value.bool).countP eqT = bs.count true := by
      rw [List.countP_map, List.count]
      congr 1
      funext b
      cases b <;> rfl
    show Value.int (((bs.map Value.bool).toArray.toList.countP eqT : Nat) : Int) s.toks = _
    rw [List.toList_toArray, ec]
theorem m_cntB : Mtd X ct E "list.count" mCntB := ⟨_, mt_cntB, fun ρ H eh x a xs as Q hr hx hxs h => by
  unfold mCntB at h
  split at h
  · rename_i n
    split at h
    · rename_i ys e1
      split at h
      · rename_i bs e2
        obtain ⟨a1, vs, g1, g2, g3⟩ := lst_of hr e1
        obtain ⟨a', q1, rfl⟩ := vr_ref.mp hx
        rw [g1] at q1; cases q1
        obtain ⟨v, rfl, hv⟩ := vrs_one hxs
        rw [boolsE_eq e2] at g3
        rw [VRs.of_bools g3] at g2
        exact ⟨a1, bs, rfl, by rw [vr_bl.mp hv], g2, h ρ H _ (Ext.refl _ _ _) hr (vr_int.mpr rfl)⟩
      · exact h.elim
    · exact h.elim
  · exact h.elim⟩
theorem m_idxB : Mtd X ct E "list.index" mIdxB := ⟨_, mt_index, fun ρ H eh x a xs as Q hr hx hxs h => by
  unfold mIdxB at h
  split at h
  · rename_i n
    split at h
    · rename_i ys e1
      split at h
      · rename_i bs e2
        split at h
        · rename_i j e3
          obtain ⟨a1, vs, g1, g2, g3⟩ := lst_of hr e1
          obtain ⟨a', q1, rfl⟩ := vr_ref.mp hx
          rw [g1] at q1; cases q1
          obtain ⟨v, rfl, hv⟩ := vrs_one hxs
          rw [boolsE_eq e2] at g3
          rw [VRs.of_bools g3] at g2
          obtain ⟨t1, t2⟩ := trueAt_ok e3
          refine ⟨a1, bs.map V.bl, .bl true, j, .bl true, rfl, by rw [vr_bl.mp hv], g2, rfl, ?_, by rw [List.getElem?_map, t1]; rfl, rfl, fun m z' hm hz => ?_, h ρ H _ (Ext.refl _ _ _) hr (vr_int.mpr rfl)⟩
          · rw [List.all_map, List.all_eq_true]
            intro b _
            rfl
          · rw [List.getElem?_map, t2 m hm] at hz
            cases hz
            rfl
        · exact h.elim
      · exact h.elim
    · exact h.elim
  · exact h.elim⟩
variable {a e : Expr} {da : DE} {dr : DA}
theorem xe_cntB {apos cpos : Pos} (ho : PEd X ct E a da) (ha : PAd X ct E [e] dr)
    (hbase : attributeBase a "count" X.env (eval a X.env) = eval a X.env := by rfl)
    (hfew : ((backTo cpos (starEach [e] X.env)).all (fun x => !x.1) && (backToKw cpos (keywordEach [] X.env)).all (fun x => x.1.isSome)
      && decide ([e].length + ([] : List Keyword).length + (if ([] : List Keyword).isEmpty then 0 else 1) < 30)) = true := by rfl)
    (hline : (apos.endLine == cpos.line) = true := by rfl) (hs : starEach [e] X.env = (false, eval e X.env) :: starEach [] X.env := by rfl) (hplain : (backTo cpos (starEach [] X.env)).any (·.1) = false := by rfl) :
    PEd X ct E (.Call (.Attribute a "count" apos) [e] [] cpos) (dBM mCntB da dr) := xe_bmL PySem.F.plainAttrs_list PySem.F.slot_list_count PySem.F.type_list_count m_cntB ho ha hbase hfew hline hs hplain
theorem xe_idxB {apos cpos : Pos} (ho : PEd X ct E a da) (ha : PAd X ct E [e] dr)
    (hbase : attributeBase a "index" X.env (eval a X.env) = eval a X.env := by rfl)
    (hfew : ((backTo cpos (starEach [e] X.env)).all (fun x => !x.1) && (backToKw cpos (keywordEach [] X.env)).all (fun x => x.1.isSome)
      && decide ([e].length + ([] : List Keyword).length + (if ([] : List Keyword).isEmpty then 0 else 1) < 30)) = true := by rfl)
    (hline : (apos.endLine == cpos.line) = true := by rfl) (hs : starEach [e] X.env = (false, eval e X.env) :: starEach [] X.env := by rfl) (hplain : (backTo cpos (starEach [] X.env)).any (·.1) = false := by rfl) :
    PEd X ct E (.Call (.Attribute a "index" apos) [e] [] cpos) (dBM mIdxB da dr) := xe_bmL PySem.F.plainAttrs_list PySem.F.slot_list_index PySem.F.type_list_index m_idxB ho ha hbase hfew hline hs hplain
end
end EE
set_option Elab.async false
set_option linter.all false
set_option maxRecDepth 100000
set_option maxHeartbeats 1000000
namespace EE
open PySem PySem.Spec PyProof.Rows L2
theorem wr_imp {α β : Type} {G : Gx} {R : Rho → Hp → α → β → Prop} {ρ : Rho} {H : Hp} {r : Res α} {Q Q' : β → Hp → Prop} {E : XK} (hq : ∀ v H, Q v H → Q' v H) (h : wr G R ρ H r Q E) : wr G R ρ H r Q' E := by
  cases r with
  | ok v h' => exact fun ρ' H' u e hr q => hq _ _ (h ρ' H' u e hr q)
  | er x h' => exact h
  | no => exact h
def D0 (Q : VK) : Ends := { nx := fun _ H' => Q .non H', rt := Q }
def Hand (G : Gx) (raised : Nat → Prop) (dS : Nat → Addr → Option Addr → DS) (cls : Value) (d : Option Addr) (H : Hp) (Q : Addr → VF → Hp → Prop) : Prop :=
  ∃ (c : Nat) (ρ : Rho) (eh : EH) (nm : List Str) (fs : List EV), raised c ∧ cls = .ref (G.ct c).1 ∧ HR G ρ H eh ∧ (∃ vs, VRs G.K ρ H fs vs ∧ ∀ dd, d = some dd → H dd = some (.xd (nm.zip vs))) ∧
    ∀ a, wr G (RF G) ρ H (dS c a d [none, some (.exc a d nm fs), none, none, none] eh) (Q a) E0
def TTw (G : Gx) (raised : Nat → Prop) (dS : Nat → Addr → Option Addr → DS) : (XK → Hp → VK → Prop) → Hp → VK → Prop := fun tl H Q =>
  tl (fun cls d H' => Hand G raised dS cls d H' fun _ => qD (D0 Q)) H Q
def tsW (G : Gx) (raised : Nat → Prop) (dS : Nat → Addr → Option Addr → DS) (a : Addr) (cls : Value) (d : Option Addr) : TS := fun D σ H =>
  σ.length = 5 → σ[1]? = some (some (V.ref a)) ∧ Hand G raised dS cls d H fun _ => qD D
def SuiteD (X0 : Cx) (ct : Nat → Addr × List Str) (raised : Nat → Prop) (b0 : Stmt) (suite : List Stmt) (dS : Nat → Addr → Option Addr → DS) : Prop :=
  ∀ (a : Addr) (oe : Obj) (d : Option Addr) (pn : List (Addr × Obj)) (c : Nat), raised c → Zc (.ref (ct c).1) d oe → (∃ vs, oe.data = .fields vs) → PSsd (X0.suite a ((a, oe) :: pn)) ct E0 (b0 :: suite) (dS c a d)
section
variable {X : Cx} {ct : Nat → Addr × List Str}
theorem gives_word {Ng : List Str} {x a e n q : Str} {sg : Scope} {g news : Addr} {cdg : Value} {raised : Nat → Prop} {dS : Nat → Addr → Option Addr → DS} {b0 : Stmt} {suite : List Stmt} {p1 p2 p3 p4 p7 p8 : Pos}
    (hge : sg.names.lookup e = some .globalImplicit) (hme : X.mg e = some (.ref news)) (hde : (e == ("__debug__" : Str)) = false) (h0 : ∀ f : Addr, (L2.start Ng [V.ref f])[0]? = some (some (V.ref f))) (hnd : Ng.Nodup) (hn : Ng[1]? = some n) (hln : sg.names.lookup n = some .local) (h5 : Ng.length = 5)
    (hex : ∀ c, raised c → PySem.W.exmOne X.K (.ref (ct c).1) (.ref news) = some true)
    (hS : ∀ (s : Shared) (H : Hp), SuiteD ((cxOf C8.CX0 X.prog X.w X.K X.mg X.base Ng x sg g cdg X.A X.stack s H C8.E0).nox) ct raised b0 suite dS) :
    LamX.GivesTo X Ng x sg g cdg [.Try [.Return (some (.Call (.Name a p1) [] [] p2)) p3] [.ExceptHandler (some (.Name e p4)) (some n) (b0 :: suite) p7] [] [] p8] a q (TTw ⟨X.K, ct⟩ raised dS) := by
  intro f c' s H Q tl act hc h
  have hgl : Gl (cxOf C8.CX0 X.prog X.w X.K X.mg X.base Ng x sg g cdg X.A X.stack s H C8.E0).nox e := hge
  refine ⟨_, pss_one (ps_try_as (X := (cxOf C8.CX0 X.prog X.w X.K X.mg X.base Ng x sg g cdg X.A X.stack s H C8.E0).nox) (c := .ref news) (i := 1)
      (tb := fun W D σ H => ∃ Ech : XK, (∀ cls d σ' H', Ech cls d H' → W cls d σ' H') ∧ σ[0]? = some (some (.ref f)) ∧ H c' = some (LamX.CodeO c' q) ∧ tl Ech H D.rt) (ts := tsW ⟨X.K, ct⟩ raised dS)
      rfl rfl hnd hn hln ⟨hgl, hde, .inl hme⟩ LamX.takes0 (fun W pn xe tk _ => ?_) (fun a oe cls d pn hz hf => ?_)), ?_⟩
  · refine ⟨fun pins s' σ H' D I h' => ?_⟩
    obtain ⟨Ech, hW, h1, h2, h3⟩ := h'
    have hp := act W pn xe Ech p1 p2 tk hW
    have hq := pss_one (ps_ret (pos := p3) hp)
    exact hq.run pins s' σ H' D I ⟨h1, h2, h3⟩
  · refine ⟨fun pins s' σ H' D I h' => ?_⟩
    have hl : σ.length = 5 := I.len.trans h5
    obtain ⟨hs, c, ρ, eh, nm, fs, hr, rfl, hh, ⟨vs, v1, v2⟩, w⟩ := h' hl
    obtain ⟨t, b1, b2⟩ := hS s H a oe d pn c hr hz hf
    refine b1.run pins s' σ H' D I (b2 ρ σ H' _ eh D ⟨⟨by rw [hl]; rfl, fun i v hv => ?_⟩, hh⟩ (w a))
    match i, hv with
    | 0, hv => cases hv
    | 1, hv =>
      cases hv
      exact ⟨.ref a, hs, vr_exc.mpr ⟨rfl, vs, v1, v2⟩⟩
    | 2, hv => cases hv
    | 3, hv => cases hv
    | 4, hv => cases hv
    | i + 5, hv => simp at hv
  · refine ⟨fun cls d H' => Hand ⟨X.K, ct⟩ raised dS cls d H' fun _ => qD (D0 Q), fun cls d σ' H' hh => ?_, h0 f, hc, h⟩
    obtain ⟨c, ρ, eh, nm, fs, hr, rfl, hh, hv, w⟩ := hh
    refine ⟨true, hex c hr, fun _ a ha hl => ⟨?_, c, ρ, eh, nm, fs, hr, rfl, hh, hv, fun a' => wr_imp (fun v H2 hq => ?_) (w a')⟩, fun z => nomatch z⟩
    · rw [List.length_set] at hl
      exact List.getElem?_set_self (by omega)
    · cases v with
      | nx σ2 => exact hq
      | rt u => exact hq
      | bk σ2 => exact hq
      | ct σ2 => exact hq
def dWord (rs : Nat → List EV → EH → Option (EV × EH)) (d : DE) : DE := fun es h => match d es h with
  | .ok v h1 => .ok v h1
  | .er x h1 => match rs x.c x.fs h1 with
    | some (v, h2) => .ok v h2
    | none => .no
  | .no => .no
theorem extN_ext {K : Fg} {ρ : Rho} {H H1 : Hp} (e : LamX.ExtN H H1) : Ext K ρ ρ H H1 where
  pre := ⟨[], by simp⟩
  tup := fun a xs h => e _ _ h fun _ z => nomatch z
  frz := fun a o u h => e _ _ h fun _ z => nomatch z
  xd := fun a fs h => e _ _ h fun _ z => nomatch z
  new := fun a h => .inl h
  rest := fun a o h hp _ => e _ _ h hp
theorem extN_hr {G : Gx} {ρ : Rho} {H H1 : Hp} {eh : EH} (hr : HR G ρ H eh) (e : LamX.ExtN H H1) (t : LamX.Tabs (tabOf G.ct) H1) : HR G ρ H1 eh :=
  hr.ext (extN_ext e).toExt0 (fun a ha => by
    obtain ⟨n, o, h1, h2, h3, h4⟩ := hr.at ha
    obtain ⟨u, e1, e2⟩ := h4.pln h3
    rw [e1]
    exact e _ _ e1 e2.1) t
theorem xe_word {E : XK} {x a e n : Str} {g c P news : Addr} {k : Nat} {pg : Arguments} {sg : Scope} {dV kV doc pm cdv ctv oc : Value} {an od : Option Addr} {osl : Array (Option Value)} {Ng : List Str} {b0 : Stmt} {suite : List Stmt} {p1 p2 p3 p4 p7 p8 : Pos}
    {params : Arguments} {body : Expr} {scope : Scope} {p lpos pos : Pos} {raised : Nat → Prop} {dS : Nat → Addr → Option Addr → DS} {rs : Nat → List EV → EH → Option (EV × EH)} {d : DE}
    (hg : Gl X x) (hm : X.mg x = some (.ref g)) (hk : PySem.W.keepIn X.K (.ref g) = true)
    (lk : X.K.lookup g = some ⟨oc, od, .func (PySem.W.fnOf x x pg [.Try [.Return (some (.Call (.Name a p1) [] [] p2)) p3] [.ExceptHandler (some (.Name e p4)) (some n) (b0 :: suite) p7] [] [] p8] sg dV kV doc pm an cdv ctv), osl⟩) (hcg : PySem.W.codeIn X.K cdv x = true)
    (hb : L2.Binds X.K (PySem.W.fnOf x x pg [.Try [.Return (some (.Call (.Name a p1) [] [] p2)) p3] [.ExceptHandler (some (.Name e p4)) (some n) (b0 :: suite) p7] [] [] p8] sg dV kV doc pm an cdv ctv) [a] []) (Sg : FnScope Ng [a] sg) (hNg : Ng[0]? = some a) (hva : Vis sg a)
    (hge : sg.names.lookup e = some .globalImplicit) (hme : X.mg e = some (.ref news)) (hde : (e == ("__debug__" : Str)) = false) (h0 : ∀ f : Addr, (L2.start Ng [V.ref f])[0]? = some (some (V.ref f))) (hn : Ng[1]? = some n) (hln : sg.names.lookup n = some .local) (h5 : Ng.length = 5)
    (hex : ∀ c, raised c → PySem.W.exmOne X.K (.ref (ct c).1) (.ref news) = some true)
    (hS : ∀ (s : Shared) (H : Hp), SuiteD ((cxOf C8.CX0 X.prog X.w X.K X.mg X.base Ng x sg g cdv X.A X.stack s H C8.E0).nox) ct raised b0 suite dS)
    (TB : LamX.TabB X.base X.mg c P) (hcode : X.env.code = .ref c) (hmT : (P, X.env.qual ++ "<lambda>") ∈ tabOf ct) (hu : ∀ p ∈ tabOf ct, p.1 = P → p.2 = X.env.qual ++ "<lambda>") (hr : Room (k + 2) X.A) (L : LamX.LamS X.env.scope scope) (hdef : defaultsOf params X.env = ([], []))
    (hbind : ∀ (q : Str) (cl : List (Str × Addr)) (pm cv ctv : Value), bindArgs (PySem.W.kla_fn "<lambda>" q params body scope cl pm cv ctv) ⟨[], []⟩ = pure [])
    (hbody : ∀ (A : Around) (outer : List Env) (s : Shared) (H : Hp) (E : XK) (f c' : Addr), Room k (A.deeper (LamX.lamEnv X scope s.heap.objs.size f c')) → TkE (LamX.lamCx X A outer s H E scope f c') E → PEd (LamX.lamCx X A outer s H E scope f c') ct E body d)
    (hrs : ∀ (c : Nat) (a : Addr) (dd : Option Addr) (fs : List EV) (h1 : EH) (v : EV) (h2 : EH), rs c fs h1 = some (v, h2) → dd.isSome = !fs.isEmpty → raised c ∧ dS c a dd [none, some (.exc a dd (ct c).2 fs), none, none, none] h1 = .ok (.rt v) h2)
    (hdb : (x == ("__debug__" : Str)) = false := by decide) (hd : (a == ("__debug__" : Str)) = false := by decide) (hcd : (a == ("__classdict__" : Str)) = false := by decide) :
    PEd X ct E (.Call (.Name x p) [.Lambda params body scope lpos] [] pos) (dWord rs d) := by
  refine ⟨_, LamX.pe_lamcall (T := tabOf ct) (t := fun E => tE ⟨X.K, ct⟩ E d) hg hm hk lk hcg hb Sg hNg hva (gives_word hge hme hde h0 Sg.nd hn hln h5 hex hS) TB hcode hmT hu hr L hdef hbind (fun A outer s H E f c' hr' => (hbody A outer s H E f c' hr' (takes_of rfl rfl rfl rfl)).can) hdb hd hcd, fun ρ σ H es eh Q rel h => ?_⟩
  refine ⟨rel.hr.tab, fun H1 eN t1 => ?_⟩
  have e0 : Ext X.K ρ ρ H H1 := extN_ext eN
  have hr1 := extN_hr rel.hr eN t1
  refine ⟨ρ, es, eh, rel.ext e0 hr1, ?_⟩
  unfold dWord at h
  cases q : d es eh with
  | ok v h' =>
    rw [q] at h
    exact wr.mono e0 h
  | no =>
    rw [q] at h
    exact h.elim
  | er z h' =>
    rw [q] at h
    simp only at h
    cases q2 : rs z.c z.fs h' with
    | none => rw [q2] at h; exact h.elim
    | some vh =>
      obtain ⟨v, h2⟩ := vh
      rw [q2] at h
      simp only at h
      intro ρ' H' cl own e' hr' xr
      obtain ⟨xc, xf⟩ := xr
      have key : own.isSome = !z.fs.isEmpty ∧ ∃ vs, VRs X.K ρ' H' z.fs vs ∧ ∀ dd, own = some dd → H' dd = some (.xd ((ct z.c).2.zip vs)) := by
        cases hf : z.fs with
        | nil =>
          rw [hf] at xf
          simp only at xf
          subst xf
          exact ⟨rfl, [], vrs_nil.mpr rfl, fun dd z => nomatch z⟩
        | cons y r =>
          rw [hf] at xf
          simp only at xf
          obtain ⟨dd, vs, rfl, h3, h4, _⟩ := xf
          exact ⟨rfl, vs, h4, fun dd' z => by cases z; exact h3⟩
      obtain ⟨k1, vs, k2, k3⟩ := key
      obtain ⟨r1, _⟩ := hrs z.c 0 own z.fs h' v h2 q2 k1
      refine ⟨z.c, ρ', h', (ct z.c).2, z.fs, r1, xc, hr', ⟨vs, k2, k3⟩, fun a => ?_⟩
      rw [(hrs z.c a own z.fs h' v h2 q2 k1).2]
      intro ρ2 H2 u e2 hr2 rf
      cases u with
      | rt w => exact h ρ2 H2 w ((e0.trans e').trans e2) hr2 rf
      | _ => exact rf.elim
end
end EE
set_option Elab.async false
set_option linter.all false
set_option maxRecDepth 100000
set_option maxHeartbeats 1000000
namespace EE
open PySem PySem.Spec PyProof.Rows L2
abbrev SupLine (a2 c1 c2 : Str) (j1 j2 : Nat) (p0 p1 p2 p3 p4 p5 p6 p7 p8 : Pos) : Prop := ∀ env : Env, ∃ pl : Sem Bool,
  eval (.Call (.Attribute (.Call (.Name "super" p0) [] [] p1) "__init__" p2) [.JoinedStr [.Constant (.str c1) j1 p3, .FormattedValue (.Name a2 p4) (-1) none p5, .Constant (.str c2) j2 p6] p7] [] p8) env = (do
    let ov ← attributeBase (.Call (.Name "super" p0) [] [] p1) "__init__" env (eval (.Call (.Name "super" p0) [] [] p1) env)
    standAt p2.atName
    let (f, first) ← holding [ov] (getMethod ov "__init__" pl)
    callWith p8 f first (backTo p8 (starEach [.JoinedStr [.Constant (.str c1) j1 p3, .FormattedValue (.Name a2 p4) (-1) none p5, .Constant (.str c2) j2 p6] p7] env)) [])
abbrev supBody (a1 a2 fld c1 c2 : Str) (j1 j2 : Nat) (p0 p1 p2 p3 p4 p5 p6 p7 p8 p9 p10 p11 p12 p13 : Pos) : List Stmt :=
  [.Expr (.Call (.Attribute (.Call (.Name "super" p0) [] [] p1) "__init__" p2) [.JoinedStr [.Constant (.str c1) j1 p3, .FormattedValue (.Name a2 p4) (-1) none p5, .Constant (.str c2) j2 p6] p7] [] p8) p9,
    .Assign [.Attribute (.Name a1 p10) fld p11] (.Name a2 p12) p13]
section
variable {P : Program} {w : World} {A : Around} {K : Fg} {mg mb : Str → Option Value} {hp : Heap} {g : Array GenState} {dr : Drawn} {t : Nat} {os : OsState} {R : Result → Shared → Prop}
variable {C cc cda f x : Addr} {a1 a2 fld c1 c2 : Str} {j1 j2 : Nat} {p0 p1 p2 p3 p4 p5 p6 p7 p8 p9 p10 p11 p12 p13 : Pos} {scope : Scope} {name qual file : Str} {params : Arguments} {dV kV doc pm ct oc ccl cl : Value} {an od cdd cld : Option Addr} {osl ccs csl : Array (Option Value)} {vs : Array Value} {tf : Tok} {cdD : ClassData} {ar : Arg} {t0 : Addr} {i : Int} {ti : Tok}
theorem sup_init (hev : SupLine a2 c1 c2 j1 j2 p0 p1 p2 p3 p4 p5 p6 p7 p8) (KX : K.In hp) (hnl : hp.NoLimit) (hgl : hp.Ns mainGlobals mg) (hmg : mg "super" = none) (hbl : hp.Ns builtinsNs mb) (hmb : mb "super" = some (.type "super")) (hroom : A.depth < recursionLimit)
    (lk : K.lookup f = some ⟨oc, od, .func (PySem.W.ksFn name qual params (supBody a1 a2 fld c1 c2 j1 j2 p0 p1 p2 p3 p4 p5 p6 p7 p8 p9 p10 p11 p12 p13) scope dV kV doc pm an (.ref cda) ct cc), osl⟩) (hcd : PySem.W.codeIn K (.ref cda) qual = true)
    (hbind : ∀ (s : Shared) (u v : Value), BindsTo s (PySem.W.ksFn name qual params (supBody a1 a2 fld c1 c2 j1 j2 p0 p1 p2 p3 p4 p5 p6 p7 p8 p9 p10 p11 p12 p13) scope dV kV doc pm an (.ref cda) ct cc) ⟨[u, v], []⟩ [(a1, u), (a2, v)])
    (hcode : K.lookup cda = some ⟨ccl, cdd, .fields vs, ccs⟩) (hvs : vs[2]? = some (.str file tf)) (hfile : ((P.main.file : Str) == file) = true) (htop : (P.main.scope.names.lookup ("super" : Str)).isSome = false)
    (hcell : K.lookup cc = some ⟨cl, cld, .cell (some (.ref C)), csl⟩) (hD : PySem.W.clsIn K C = some cdD) (hsub : PySem.W.mroIn K C (.ref C) = some true)
    (hpar : (params.posonlyargs ++ params.args).head? = some ar) (har : ar.arg = a1) (hne : (a1 == a2) = false)
    (hks : scope.names.lookup ("super" : Str) = some .globalImplicit) (hkc : scope.names.lookup ("__class__" : Str) = some .free) (h1 : scope.names.lookup a1 = some .local) (h2 : scope.names.lookup a2 = some .local) (hcells : ∀ y ∈ scope.names, y.2 ≠ .cell) (hco : scope.isCoroutine = false) (hgen : scope.isGenerator = false) (hk : scope.kind = .function)
    (hd1 : (a1 == ("__debug__" : Str)) = false) (hd2 : (a2 == ("__debug__" : Str)) = false)
    (htp : PySem.W.nsIn K cStatics "thirdparty.any" = some none) (hmi : PySem.W.ks_superIn K C C "__init__" = some (some (.builtin "ValueError.__init__"))) (hB : PySem.W.subIn K (.ref C) (.type "ValueError") = some true) (hei : PySem.W.excInitIn K C [.type "ValueError", .type "Exception", .type "BaseException", .type "object"] "ValueError.__new__" = true)
    (hsa : PySem.W.findIn K (.ref C) "__setattr__" = some (some (.builtin "object.__setattr__"))) (hmr : PySem.HandSPX.refsVE cdD.mro = true) (hdi : cdD.hasDict = true) (hno : PySem.W.findIn K (.ref C) fld = some none)
    (hx : hp.get? x = some (PySem.HandSPX.excO C t0)) (hxK : K.lookup x = none) (hi : i.natAbs.log2 < 1920) (hl : ((Str.empty ++ c1) ++ toString i).length + c2.length ≤ 100000)
    (hR : ∀ (h' : Heap) (tk : Nat) (dx t1 : Addr), (∀ b o, b ≠ x → hp.get? b = some o → h'.get? b = some o) → hp.objs.size ≤ dx → dx ≠ x → h'.get? x = some { cls := .ref C, dict := some dx, data := .fields #[.ref t1, .none, .none, .none, .bool false, .none] } →
      h'.Ns1 dx (fun y => if y = fld then some (.int i ti) else none) → R (.ok (.ret .none)) ⟨h', g, dr, tk, os⟩) :
    codeAny (model P w) A (.call (.ref f) ⟨[.ref x, .int i ti], []⟩) R ⟨hp, g, dr, t, os⟩ := by
  obtain ⟨oD, hD1, hD2⟩ : ∃ oD, hp.get? C = some oD ∧ oD.data = .cls cdD := by
    unfold PySem.W.clsIn at hD
    split at hD
    · rename_i c d cd' sl ho
      cases hD
      exact ⟨_, KX _ _ ho, rfl⟩
    · cases hD
  refine PySem.ks_codeAny_call_defAt (body := supBody a1 a2 fld c1 c2 j1 j2 p0 p1 p2 p3 p4 p5 p6 p7 p8 p9 p10 p11 p12 p13) (binds := [(a1, .ref x), (a2, .int i ti)]) hroom (KX _ _ lk) rfl hnl (PySem.W.codeRec_of KX hcd) rfl (hbind _ _ _) hcells (fun y hy => ?_) (fun h₁ hns hkp => ?_) hco hgen hk
  · rcases List.mem_cons.mp hy with e | hy
    · rw [e]; exact h1
    · rw [List.mem_singleton.mp hy]; exact h2
  have X0 : K.In (PySem.W.hideAll hp [x]) := fun a o e => PySem.W.hideAll_get [x] (KX a o e) (fun z => by rw [List.mem_singleton.mp z, hxK] at e; cases e)
  have Fa : Fr (PySem.W.hideAll hp [x]) hp.objs.size h₁ (fun y => ([(a1, Value.ref x), (a2, Value.int i ti)] : List (Str × Value)).reverse.lookup y) := ⟨hns, fun b o e => hkp b o (PySem.W.of_hideAll _ e), Nat.le_of_eq (PySem.W.hideAll_size _ _)⟩
  have Na : News (PySem.W.hideAll hp [x]) hp.objs.size h₁ [(x, PySem.W.excObj C t0 none .none)] := fun p hm => by
    rw [List.mem_singleton.mp hm]
    exact ⟨hkp _ _ hx, Nat.ne_of_lt (Heap.lt_size hx), PySem.W.hideAll_none _ (List.mem_singleton.mpr rfl)⟩
  have v1 : ([(a1, Value.ref x), (a2, Value.int i ti)] : List (Str × Value)).reverse.lookup a1 = some (.ref x) := by
    simp [List.lookup, hne]
  have v2 : ([(a1, Value.ref x), (a2, Value.int i ti)] : List (Str × Value)).reverse.lookup a2 = some (.int i ti) := by
    simp [List.lookup]
  obtain ⟨pl, hev⟩ := hev (callEnv (PySem.W.ksFn name qual params (supBody a1 a2 fld c1 c2 j1 j2 p0 p1 p2 p3 p4 p5 p6 p7 p8 p9 p10 p11 p12 p13) scope dV kV doc pm an (.ref cda) ct cc) hp.objs.size f)
  have hint : interactive (callEnv (PySem.W.ksFn name qual params (supBody a1 a2 fld c1 c2 j1 j2 p0 p1 p2 p3 p4 p5 p6 p7 p8 p9 p10 p11 p12 p13) scope dV kV doc pm an (.ref cda) ct cc) hp.objs.size f) = false := by
    have hk' : (callEnv (PySem.W.ksFn name qual params (supBody a1 a2 fld c1 c2 j1 j2 p0 p1 p2 p3 p4 p5 p6 p7 p8 p9 p10 p11 p12 p13) scope dV kV doc pm an (.ref cda) ct cc) hp.objs.size f).scope.kind = .function := hk
    unfold interactive
    simp [hk']
  refine PySem.ks_wpAt_execs_cons (PySem.ks_wpAt_Expr_any (hi := hint) (PySem.ks_wpAt_MethodCall (pl := pl) (he := hev) (PySem.ks_wpAt_super_base (f := f) (cc := cda) hks hkc (by decide +kernel) rfl (hkp _ _ (KX _ _ lk)) rfl hpar rfl (hkp _ _ (KX _ _ hcode)) rfl hvs hfile htop ?_)))
  refine PySem.W.ks_loadName_global hk hks (Calls.loadGlobal_builtin (hgl.at' fun o e => hkp _ o e) hmg (hbl.at' fun o e => hkp _ o e) hmb ⟨rfl, ?_⟩)
  refine wpAny_loadName_free hk hkc rfl ⟨_, hkp _ _ (KX _ _ hcell), rfl⟩ ?_
  rw [har]
  refine wpAny_loadName_local hk h1 hns v1 ?_
  refine PySem.ks_wpAny_isType_cls (hkp _ _ hD1) hD2 ⟨rfl, ?_⟩
  refine PySem.ks_wpAny_call_super (hkp _ _ hD1) hD2 (hkp _ _ hx) rfl (fun c e => nomatch e) (PySem.W.looks_mroIn (KX.keeps hkp) hsub) (fun hb e2 k2 => ?_)
  obtain ⟨Fb, Nb, lb⟩ := PySem.W.ks_newsPush (s := ⟨h₁, g, dr, t + 2, os⟩) Fa Na rfl e2 k2
  refine PySem.W.kxs_method PySem.W.kxs_ValueError Fb X0 Nb List.mem_cons_self (PySem.W.InstAt.of_exc0 Nb (List.mem_cons_of_mem _ List.mem_cons_self)) htp hmi hB (by decide +kernel) (fun q hc Fc Nc lc => ?_)
  refine PySem.W.kxs_callWith1 (i := "ValueError.__init__") (x := x) Nc List.mem_cons_self ?_
  refine Calls.spliced_cons (wpAny_JoinedStr (pos := p7) ?_)
  have hle : (Str.empty ++ c1).length ≤ ((Str.empty ++ c1) ++ toString i).length := by
    rw [TL.len_tl, TL.len_tl, TL.tl_append (Str.empty ++ c1)]
    simp
  have hsl := sz5 (Nat.le_refl 100000)
  show Joins _ _ _ (eval (.Constant (.str c1) j1 p3) _ :: eval (.FormattedValue (.Name a2 p4) (-1) none p5) _ :: eval (.Constant (.str c2) j2 p6) _ :: []) _ _ _
  refine Calls.Constant_str ⟨c1, _, rfl, by omega, ?_⟩
  refine wpAny_FormattedValue_plain (wpAny_Name (wpAny_loadName_local hk h2 Fc.ns v2 (wpAny_formatField_int hi ⟨_, _, rfl, by omega, ?_⟩)) hd2)
  have hl3 : ((Str.empty ++ c1 ++ toString i) ++ c2).length ≤ 100000 := by
    rw [TL.len_tl, TL.tl_append, List.length_append, ← TL.len_tl, ← TL.len_tl]
    exact hl
  refine Calls.Constant_str ⟨c2, _, rfl, by omega, ?_⟩
  refine ⟨by omega, Calls.spliced_nil ⟨PySem.W.kxs_at Nc List.mem_cons_self, ?_⟩⟩
  have ux : x ≠ hp.objs.size := Nat.ne_of_lt (Heap.lt_size hx)
  have n1 : q ≠ x := fun e => Nat.ne_of_lt (lc (x, _) (List.mem_cons_of_mem _ List.mem_cons_self)) e.symm
  have n2 : h₁.objs.size ≠ x := fun e => Nat.ne_of_lt (lb (x, _) List.mem_cons_self) e.symm
  refine PySem.W.kxs_call Fc X0 Nc PySem.F.excBase_ValueError hei List.mem_cons_self (.tail n1 (.tail n2 (.head fun p hm => nomatch hm))) (by show 1 ≤ sizeLine; omega) (fun t' hd Fd Nd ld => ?_)
  refine PySem.ks_wpAt_execs_cons (PySem.ks_wpAt_Assign_Attr (wpAt_of_wpAny (wpAny_Name (wpAny_loadName_local hk h2 Fd.ns v2 ?_) hd2)))
  refine wpAny_Name (wpAny_loadName_local hk h1 Fd.ns v1 ?_) hd1
  have Xd : K.In hd := X0.keeps Fd.keep
  have hxd : hd.get? x = some (PySem.W.excObj C t' none .none) := (Nd (x, PySem.W.excObj C t' none .none) (by simp)).1
  refine PySem.W.set_plain Xd (C := C) (ox := PySem.W.excObj C t' none .none) (od := none) ⟨hxd, rfl, rfl, trivial⟩ hsa ?_
  refine PySem.HandSPX.exc_osa Xd hxd hD hmr hdi hno (fun h5 tk5 dx k5 hdx hne5 hx5 hn5 => ?_)
  refine wpAt_of_wpAny (wpAny_execs_nil ?_)
  refine hR h5 tk5 dx t' (fun b o hb e => k5 b o hb (Fd.keep b o (PySem.W.hideAll_get [x] e (fun z => hb (List.mem_singleton.mp z))))) ?_ hne5 hx5 hn5
  obtain ⟨oL, _, _, hL, _⟩ := Fd.ns
  exact Nat.le_trans (Nat.le_of_lt (Heap.lt_size hL)) hdx
end
end EE
set_option Elab.async false
set_option linter.all false
set_option maxRecDepth 100000
set_option maxHeartbeats 1000000
namespace EE
open PySem PySem.Spec PyProof.Rows L2
structure SupD (P : Program) (w : World) (K : Fg) (mg : Str → Option Value) (C : Addr) (fld c1 c2 : Str) : Prop where
  ei : PySem.W.excInitIn K C [.type "ValueError", .type "Exception", .type "BaseException", .type "object"] "ValueError.__new__" = true
  k : PySem.W.keepIn K (.ref C) = true
  b : PySem.W.subIn K (.ref C) (.type "BaseException") = some true
  t : PySem.W.typeIn K (.ref C) = some (.type "type")
  run : ∃ f : Addr, PySem.W.findIn K (.ref C) "__init__" = some (some (.ref f)) ∧ PySem.W.typeIn K (.ref f) = some (.type "function") ∧
    ∀ (A : Around) (hp : Heap) (g : Array GenState) (dr : Drawn) (t : Nat) (os : OsState) (R : Result → Shared → Prop) (x t0 : Addr) (i : Int) (ti : Tok) (mb : Str → Option Value),
      K.In hp → hp.NoLimit → hp.Ns mainGlobals mg → hp.Ns builtinsNs mb → mb "super" = some (.type "super") → A.depth < recursionLimit → hp.get? x = some (PySem.HandSPX.excO C t0) → K.lookup x = none → i.natAbs.log2 < 1920 → ((Str.empty ++ c1) ++ toString i).length + c2.length ≤ 100000 →
      (∀ (h' : Heap) (tk : Nat) (dx t1 : Addr), (∀ b o, b ≠ x → hp.get? b = some o → h'.get? b = some o) → hp.objs.size ≤ dx → dx ≠ x → h'.get? x = some { cls := .ref C, dict := some dx, data := .fields #[.ref t1, .none, .none, .none, .bool false, .none] } →
        h'.Ns1 dx (fun y => if y = fld then some (.int i ti) else none) → R (.ok (.ret .none)) ⟨h', g, dr, tk, os⟩) →
      codeAny (model P w) A (.call (.ref f) ⟨[.ref x, .int i ti], []⟩) R ⟨hp, g, dr, t, os⟩
def tMkS (C : Addr) (fld c1 c2 : Str) (ta : TA) : L2.St → Hp → XK → Prop := fun σ H Q => ta σ H fun vs H1 => ∃ i : Int, vs = [.int i] ∧ i.natAbs.log2 < 1920 ∧ ((Str.empty ++ c1) ++ toString i).length + c2.length ≤ 100000 ∧ ∀ d, H1 d = none → Q (.ref C) (some d) (upd H1 d (.xd [(fld, .int i)]))
section
variable {X : Cx} {C : Addr} {x fld c1 c2 : Str} {e : Expr} {ta : TA} {p pos : Pos}
theorem pmk_sup (S : SupD X.prog X.w X.K X.mg C fld c1 c2) (hm : X.mg x = some (.ref C)) (hms : X.mg "super" = none) (hr : X.A.depth + 2 < recursionLimit) (hg : Gl X x) (ha : PA X [e] ta) (hdb : (x == ("__debug__" : Str)) = false := by decide)
    (he : starEach [e] X.env = (false, eval e X.env) :: starEach [] X.env := by rfl) (hpl : (backTo pos (starEach [] X.env)).any (·.1) = false := by rfl) : PMk X (.Call (.Name x p) [e] [] pos) (tMkS C fld c1 c2 ta) := by
  intro pins s σ H Q I h
  obtain ⟨f, hf1, hf2, hrun⟩ := S.run
  refine wpAny_Call_Name_kw (ld_glob I hg hm ?_ hdb)
  refine PySem.W.callWith_K (h₀ := X.base) I.ok.mod.kin S.k (thn (ha.run pos pins s σ H _ I h) fun us s1 ⟨vs, H1, I1, r1, i, ev, hi, hl, q⟩ => ⟨I1.kIn, ?_⟩) he hpl
  subst ev
  obtain ⟨u, rfl, ru⟩ := r1.one
  obtain ⟨ti, rfl⟩ := ru
  show wpAny _ _ (call (.ref C) [.int i ti]) _ _ _
  obtain ⟨hp, g, dr, tk, os⟩ := s1
  obtain ⟨nm, N', qn, bs, bm, hdct, sn, sub, ab, col, dd, k0, k1, k2, k3, k5, hC, hT⟩ := PySem.W.excInit_of I1.kIn S.ei
  have kk : ∀ b o, hp.get? b = some o → ((hp.push (PySem.W.kdv_tup [.int i ti])).push (PySem.HandSPX.excO C hp.objs.size)).get? b = some o := fun b o e => Heap.get?_push_of_some _ (Heap.get?_push_of_some _ e)
  have hget : ((hp.push (PySem.W.kdv_tup [.int i ti])).push (PySem.HandSPX.excO C hp.objs.size)).get? (hp.objs.size + 1) = some (PySem.HandSPX.excO C hp.objs.size) := by heap_get
  have nK : X.K.lookup (hp.objs.size + 1) = none := by
    cases z : X.K.lookup (hp.objs.size + 1) with
    | none => rfl
    | some o => exact absurd (Heap.lt_size (I1.kIn _ _ z)) (by show ¬ hp.objs.size + 1 < hp.objs.size; omega)
  obtain ⟨mb, hb1, hb2⟩ := I1.mod.blt
  refine wpAny_call (PySem.HandSPX.call_own PySem.F.excBase_ValueError hT hC (PySem.W.looks_findIn I1.kIn hf1) (fun self => PySem.W.bind_fn I1.kIn self hf2) (by show 1 ≤ sizeLine; rw [sizeLine_eq]; omega)
    (hrun _ _ g dr tk os _ (hp.objs.size + 1) hp.objs.size i ti mb (I1.kIn.keeps kk) ((I1.nolimit).keeps kk) ((I1.mod.glob.keeps I1.bk).keeps kk) ((hb1.keeps I1.bk).keeps kk) (hb2 _ (by decide)) ?_ hget nK hi hl (fun h' tk' dx t1 k hdx hne hx hn => ?_)))
  · rw [make_depth]
    omega
  · refine ⟨rfl, ?_⟩
    obtain ⟨G, g1', g2'⟩ := restrict h' fun b => decide (b ≠ hp.objs.size + 1)
    have gk : ∀ b, b ≠ hp.objs.size + 1 → G.get? b = h'.get? b := fun b hb => g1' b (decide_eq_true hb)
    have ge : G.get? (hp.objs.size + 1) = none := g2' _ (by simp)
    have ne1 : ∀ {b : Addr} {o : Obj}, hp.get? b = some o → b ≠ hp.objs.size + 1 := fun {b o} z e => by
      have := Heap.lt_size z
      rw [e] at this
      exact absurd this (by show ¬ hp.objs.size + 1 < hp.objs.size; omega)
    have sz : hp.objs.size ≤ dx := Nat.le_trans (by rw [Heap.size_push, Heap.size_push]; omega) hdx
    have hnd : H1 dx = none := I1.hok.fresh sz
    have kG : ∀ b o, hp.get? b = some o → G.get? b = some o := fun b o z => by
      rw [gk b (ne1 z)]
      exact k b o (ne1 z) (kk b o z)
    have hnG : G.Ns1 dx (fun y => if y = fld then some (.int i ti) else none) := hn.at fun o z => (gk dx hne).trans z
    have new : ObjOk X.prog X.w (upd H1 dx (.xd [(fld, .int i)])) G dx (.xd [(fld, .int i)]) := ⟨_, hnG, fun y => by
      by_cases hy : y = fld
      · subst hy
        simp [List.lookup]
        exact ⟨ti, rfl⟩
      · have : (y == fld) = false := by simpa using hy
        simp [List.lookup, this, hy]
        exact True.intro⟩
    have J : Inv X pins σ (upd H1 dx (.xd [(fld, .int i)])) ⟨G, g, dr, tk', os⟩ := I1.laid (t' := tk') (a := dx) (o := .xd [(fld, .int i)]) (h' := G) kG sz new
    refine ⟨hp.objs.size + 1, _, _, ⟨G, g, dr, tk', os⟩, _, .ref C, some dx, rfl, J, fun b o z => ?_, ge, hx, ⟨rfl, rfl⟩, rfl, rfl, ?_, rfl, I1.bare, raises_own S.b S.t, q dx hnd⟩
    · by_cases hb : b = hp.objs.size + 1
      · rw [hb, ge] at z; cases z
      · exact (gk b hb).symm.trans z
    · rw [upd_ne (Ne.symm hne)]
      exact I1.hok.fresh (Nat.le_succ _)
def dRaiseN (c : Nat) (c1 c2 : Str) (a : DE) : DS := fun es h => (a es h).bind fun x h1 => match x with
  | .int i => if i.natAbs.log2 < 1920 ∧ ((Str.empty ++ c1) ++ toString i).length + c2.length ≤ 100000 then .er ⟨c, [.int i]⟩ h1 else .no
  | _ => .no
theorem xs_raiseN {ct : Nat → Addr × List Str} {E : XK} {d : DE} {k : Nat} {p2 : Pos} (c : Nat) (S : SupD X.prog X.w X.K X.mg (ct c).1 fld c1 c2) (hn : (ct c).2 = [fld]) (hm : X.mg x = some (.ref (ct c).1)) (hms : X.mg "super" = none) (hr : Room k X.A) (hc : X.calm = true) (tk : TkE X E) (hg : Gl X x) (hd : PEd X ct E e d)
    (hdb : (x == ("__debug__" : Str)) = false := by decide) (he : starEach [e] X.env = (false, eval e X.env) :: starEach [] X.env := by rfl) (hpl : (backTo pos (starEach [] X.env)).any (·.1) = false := by rfl) :
    PSd X ct E (.Raise (some (.Call (.Name x p) [e] [] pos)) none p2) (dRaiseN c c1 c2 d) := by
  obtain ⟨t, a1, a2⟩ := hd
  refine ⟨_, ps_raise hc tk (pmk_sup S hm hms (by have := hr.dp; omega) hg (pa_cons a1 pa_nil he) hdb he hpl), fun ρ σ H es eh D rel h => ?_⟩
  refine a2.bind rel h fun ρ1 H1 y eh1 u e1 rel1 v1 h1 => ?_
  split at h1
  · rename_i i
    split at h1
    · rename_i hh
      refine ⟨i, by rw [vr_int.mp v1], hh.1, hh.2, fun dd hd => ?_⟩
      have e3 : Ext X.K ρ1 ρ1 H1 (upd H1 dd (.xd [(fld, .int i)])) := Ext.side _ hd
      refine h1 ρ1 _ _ _ e3 (rel1.hr.side _ hd) ⟨rfl, dd, [.int i], rfl, ?_, VRs.one (vr_int.mpr rfl), ?_⟩
      · rw [upd_same, hn]
        rfl
      · rw [hn]
        rfl
    · exact h1.elim
  · exact h1.elim
end
end EE
set_option Elab.async false
set_option linter.all false
set_option maxRecDepth 100000
set_option maxHeartbeats 1000000
namespace EE
open PySem PySem.Spec PyProof.Rows L2
theorem tabs_more {T : List (Addr × Str)} {H : Hp} {P c' : Addr} {q : Str} {ps : Array Value} {pos : Pos} (hT : LamX.Tabs T H) (hm : (P, q) ∈ T) (hu : ∀ p ∈ T, p.1 = P → p.2 = q) (hP : H P = some (.tbl ps)) (nC : H c' = none) :
    LamX.Tabs T (upd (upd H P (.tbl (ps ++ #[rawInt pos.line, rawInt pos.col, .ref c']))) c' (LamX.CodeO c' q)) ∧ LamX.ExtN H (upd (upd H P (.tbl (ps ++ #[rawInt pos.line, rawInt pos.col, .ref c']))) c' (LamX.CodeO c' q)) := by
  have stay : LamX.ExtN H (upd (upd H P (.tbl (ps ++ #[rawInt pos.line, rawInt pos.col, .ref c']))) c' (LamX.CodeO c' q)) := by
    intro b o e n
    have h1 : b ≠ c' := ne_of_none e nC
    have h2 : b ≠ P := by
      rintro rfl
      rw [hP] at e
      exact n ps (Option.some.inj e).symm
    rw [upd_ne h1, upd_ne h2, e]
  refine ⟨?_, stay⟩
  rintro ⟨a, r⟩ hp
  by_cases ha : a = P
  · subst ha
    obtain rfl : r = q := hu _ hp rfl
    obtain ⟨ps0, g1, g2, g3⟩ := hT _ hp
    simp only at g1
    rw [hP] at g1
    cases g1
    have hL : (ps ++ #[rawInt pos.line, rawInt pos.col, Value.ref c']).toList = ps.toList ++ [rawInt pos.line, rawInt pos.col, .ref c'] := by simp
    refine ⟨ps ++ #[rawInt pos.line, rawInt pos.col, .ref c'], ?_, ?_, ?_⟩
    · show upd _ _ _ a = _
      rw [upd_ne (ne_of_none hP nC), upd_same]
    · rw [hL]; exact PySem.TriplesOk_snoc _ _ _ _ g2
    · intro p2 cv hcv
      rw [hL] at hcv
      cases LamX.among_app _ g2 hcv with
      | inl z =>
        obtain ⟨c0, e1, e2⟩ := g3 p2 cv z
        exact ⟨c0, e1, stay _ _ e2 LamX.codeO_ne⟩
      | inr z => exact ⟨c', z, upd_same⟩
  · obtain ⟨ps0, g1, g2, g3⟩ := hT _ hp
    simp only at g1
    refine ⟨ps0, ?_, g2, fun p2 cv hcv => ?_⟩
    · show upd _ _ _ a = _
      rw [upd_ne (ne_of_none g1 nC), upd_ne ha, g1]
    · obtain ⟨c0, e1, e2⟩ := g3 p2 cv hcv
      exact ⟨c0, e1, stay _ _ e2 LamX.codeO_ne⟩
structure AllSc (sc scope : Scope) (x d : Str) : Prop where
  kind : scope.kind = .function
  co : scope.isCoroutine = false
  cell : ∀ y ∈ scope.names, y.2 ≠ .cell
  dot : scope.names.lookup (".0" : Str) = some NameKind.local
  loc : scope.names.lookup x = some .local
  held : scope.names.lookup d = some .free
  free : ∀ y ∈ scope.names, y.2 = .free → sc.names.lookup y.1 = some .cell ∨ sc.names.lookup y.1 = some .free
def allScB (sc scope : Scope) (x d : Str) : Bool :=
  decide (scope.kind = .function) && !scope.isCoroutine && (scope.names.all fun y => !decide (y.2 = .cell)) && decide (scope.names.lookup (".0" : Str) = some NameKind.local) &&
    decide (scope.names.lookup x = some .local) && decide (scope.names.lookup d = some .free) && scope.names.all fun y => !decide (y.2 = .free) || (decide (sc.names.lookup y.1 = some .cell) || decide (sc.names.lookup y.1 = some .free))
theorem allSc_by {sc scope : Scope} {x d : Str} (h : allScB sc scope x d = true) : AllSc sc scope x d := by
  unfold allScB at h
  simp only [Bool.and_eq_true, Bool.or_eq_true, Bool.not_eq_true', decide_eq_true_eq, decide_eq_false_iff_not, List.all_eq_true] at h
  obtain ⟨⟨⟨⟨⟨⟨h1, h2⟩, h3⟩, h4⟩, h5⟩, h6⟩, h7⟩ := h
  refine ⟨h1, h2, h3, h4, h5, h6, fun y hy e => ?_⟩
  rcases h7 y hy with z | z
  · exact absurd e z
  · exact z
def truAt (f : V → Bool) (vs : List V) (i : Nat) : Bool := match vs[i]? with | some v => f v | none => false
theorem truAt_all (f : V → Bool) (vs : List V) : (List.range vs.length).all (truAt f vs) = vs.all f := by
  rw [Bool.eq_iff_iff, List.all_eq_true, List.all_eq_true]
  constructor
  · intro h v hv
    obtain ⟨i, hi, e⟩ := List.getElem_of_mem hv
    have q := h i (List.mem_range.mpr hi)
    unfold truAt at q
    rw [List.getElem?_eq_getElem hi, e] at q
    exact q
  · intro h i hi
    have hi' := List.mem_range.mp hi
    unfold truAt
    rw [List.getElem?_eq_getElem hi']
    exact h _ (List.getElem_mem hi')
section
variable {X : Cx} {pins : List (Addr × Obj)} {σ : L2.St} {H : Hp} {s : Shared}
def InTest (X : Cx) (P dd : Addr) (f : V → Bool) (vs : List V) (s1 : Shared) : Prop :=
  ∀ (A' : Around) (E' : Value → Shared → Prop) (v : V) (u : Value) (s₂ : Shared), v ∈ vs → RelV v u → (∀ b o, b ≠ P → s1.heap.get? b = some o → s₂.heap.get? b = some o) →
    wpAny (model X.prog X.w) A' (compareOp .In u (.ref dd)) (fun y s₃ => y = .bool (f v) ∧ Keeps s₂ s₃) E' s₂
def GenReady (X : Cx) (pins : List (Addr × Obj)) (σ : L2.St) (T : List (Addr × Str)) (H1 : Hp) (vs : List V) (f : V → Bool) (g : Addr) (s5 : Shared) : Prop :=
  ∃ (fp wr : List Addr) (G : Array GenState → Array GenState → Prop) (F : Nat → Value → Prop) (St : Nat → Shared → Prop),
    WalksS X.prog X.w X.A.in1 g fp wr G vs.length F St ∧ St 0 s5 ∧ TruthOf X.prog X.w X.A.in1 F (truAt f vs) ∧
    ∀ s', Moved wr G s5 s' → ∃ H2, LamX.ExtN H1 H2 ∧ LamX.Tabs T H2 ∧ Inv X pins σ H2 s'
theorem gen_in {T : List (Addr × Str)} {c P : Addr} {iter : Expr} {x dn : Str} {px gpos p1 p2 p3 : Pos} {scope : Scope} {te : TE} {k iD : Nat} {Q' : Value → Shared → Prop} {R : List V → (V → Bool) → Hp → Prop}
    (hr : Room k X.A) (TB : LamX.TabB X.base X.mg c P) (hcode : X.env.code = .ref c) (hmT : (P, X.env.qual ++ "<genexpr>") ∈ T) (hu : ∀ p ∈ T, p.1 = P → p.2 = X.env.qual ++ "<genexpr>") (S : AllSc X.env.scope scope x dn) (hN : X.N[iD]? = some dn) (hi : PE X iter te)
    (hs : ∀ v, genFold iter X.env v = pure v) (I : Inv X pins σ H s)
    (h : te σ H fun v H1 => LamX.Tabs T H1 ∧ ∃ (L dd : Addr) (vs : List V) (f : V → Bool), v = .ref L ∧ SqL X.K H1 L vs ∧ σ[iD]? = some (some (.ref dd)) ∧ (∀ pins s1, Inv X pins σ H1 s1 → InTest X P dd f vs s1) ∧ R vs f H1)
    (hQ : ∀ vs f H1 g s5, R vs f H1 → GenReady X pins σ T H1 vs f g s5 → Q' (.ref g) s5)
    (hdx : (x == ("__debug__" : Str)) = false := by decide) (hdd : (dn == ("__debug__" : Str)) = false := by decide) (hdc : (dn == ("__classdict__" : Str)) = false := by decide) :
    wpAny (model X.prog X.w) X.A (eval (.GeneratorExp (.Compare (.Name x p1) [.In] [.Name dn p2] p3) [⟨.Name x px, iter, [], 0⟩] scope gpos) X.env) Q' X.xe s := by
  have hfree : ∀ y ∈ scope.names, y.2 = .free → ∃ c, X.env.cells.lookup y.1 = some c := fun y hy e => by
    rcases S.free y hy e with z | z
    · exact I.ok.has _ (.inl z)
    · exact I.ok.has _ (.inr z)
  refine wpAny_GeneratorExp_walksQ hr.hd S.co (closure_ok hfree) S.cell S.dot S.loc S.kind (by have := hr.dp; omega) ?_ hs
  refine thn (hi.run pins s σ H _ I h) fun xv s1 ⟨v, H1, I1, r1, tT, L, dd, vs, f, ev, hL, hσ, hin, q1⟩ => ?_
  subst ev
  obtain rfl : xv = Value.ref L := r1
  obtain ⟨ps, hP, ht, ha⟩ := tT _ hmT
  simp only at hP
  have hin := hin pins s1 I1
  obtain ⟨its, rv, hl, hz⟩ := I1.list hL
  have hIL := hl.isList
  have hlen : its.length = vs.length := rv.length.symm
  have hat : ∀ (i : Nat) (u : Value), its.toArray[i]? = some u → ∃ v, vs[i]? = some v ∧ RelV v u := fun i u hv => by
    have hv2 : its[i]? = some u := by simpa using hv
    have hi2 : i < vs.length := by
      have := (List.getElem?_eq_some_iff.mp hv2).1
      omega
    obtain ⟨w', g1, g2⟩ := rv.get (List.getElem?_eq_getElem hi2)
    rw [hv2] at g1
    cases g1
    exact ⟨_, List.getElem?_eq_getElem hi2, g2⟩
  refine wpAny_pyIter_list hIL ?_
  generalize ho : ({ cls := .type "list_iterator", data := .fields #[.ref L, .int 0 0] } : Obj) = o
  have hitr : (s1.heap.push o).IsListIter s1.heap.objs.size L 0 := by
    subst ho
    exact ⟨_, Heap.get?_push_size _ rfl, rfl, rfl⟩
  have hLlt : L < s1.heap.objs.size := let ⟨_, e, _⟩ := hIL; Heap.lt_size e
  have hPs : s1.heap.get? P = some { cls := .none, data := .fields ps } := I1.hok P _ hP
  have hPlt : P < s1.heap.objs.size := Heap.lt_size hPs
  have hP2 : (s1.heap.push o).get? P = some { cls := .none, data := .fields ps } := Heap.get?_push_of_some _ hPs
  have cd : PySem.W.CodeHd (s1.heap.push o) c P := TB.code.keeps fun b u e => Heap.get?_push_of_some _ (I1.bk b u e)
  have lim2 : (s1.heap.push o).NoLimit := I1.nolimit.push o
  have sz2 : (s1.heap.push o).objs.size = s1.heap.objs.size + 1 := Heap.size_push ..
  have cont : ∀ (code : Value) (h3 : Heap) (tk : Nat), Heap.ExtBut P (s1.heap.push o) h3 → (s1.heap.push o).objs.size ≤ h3.objs.size →
      (∀ (s' : Shared) (wr : List Addr), (∀ b u, b ∉ wr → h3.get? b = some u → s'.heap.get? b = some u) → (∀ b ∈ wr, b = s1.heap.objs.size ∨ h3.objs.size ≤ b) → AllBare s'.gens → s'.os = s1.os → ∃ H2, LamX.ExtN H1 H2 ∧ LamX.Tabs T H2 ∧ Inv X pins σ H2 s') →
      wpAny (model X.prog X.w) X.A (builtinsFor X.env.globals X.env.builtins) (fun bi s₄ =>
        ∃ Ia fp wr n₀ Pf St₀ pz F, Value.ref s1.heap.objs.size = .ref Ia ∧ (∀ A' : Around, A'.handled = none → Walks X.prog X.w A' Ia fp wr n₀ Pf St₀) ∧ St₀ 0 s₄.heap ∧ (∀ b ∈ fp, b < s₄.heap.objs.size) ∧ s₄.heap.NoLimit ∧ cStatics ∉ wr ∧
          (∀ href : Heap, (∀ b o, s₄.heap.get? b = some o → href.get? b = some o) →
            QuietGen X.prog X.w (genEnv scope (cloFrom X.env.cells scope.names []) s₄.heap.objs.size code bi X.env) x [] (.Compare (.Name x p1) [.In] [.Name dn p2] p3) (List.range s₄.heap.objs.size) wr Pf pz F href) ∧
          (∀ a h₅ tk gs, gs.bare = true → s₄.heap.objs.size < a → h₅.objs.size = a + 1 → (∀ b o, s₄.heap.get? b = some o → h₅.get? b = some o) →
            WalksS X.prog X.w X.A.in4 a (a :: s₄.heap.objs.size :: List.range s₄.heap.objs.size) (s₄.heap.objs.size :: wr) (GenOnlyQ s₄.gens.size) (passing pz n₀ 0).length
              (fun j y => ∃ i, (passing pz n₀ 0)[j]? = some i ∧ F i y) (GenAt X.prog X.w X.A.in4 a s₄.gens.size s₄.heap.objs.size (List.range s₄.heap.objs.size) wr pz n₀ F) →
            GenAt X.prog X.w X.A.in4 a s₄.gens.size s₄.heap.objs.size (List.range s₄.heap.objs.size) wr pz n₀ F 0 { s₄ with gens := s₄.gens.push gs, toks := tk, heap := h₅ } →
            Q' (.ref a) { s₄ with gens := s₄.gens.push gs, toks := tk, heap := h₅ })) X.xe { s1 with heap := h3, toks := tk } := by
    intro code h3 tk hx hsz hend
    obtain ⟨bm, ob, e1, e2, e3, e4, e5, e6, e7, e8⟩ := TB.bm
    have hcP : cStatics ≠ P := fun e => by
      obtain ⟨_, hns, _⟩ := I1.nolimit
      obtain ⟨o', es, ep, ho, hd, _⟩ := hns
      rw [e, hPs] at ho
      cases ho
      cases hd
    have hcl : cStatics < s1.heap.objs.size := let ⟨_, hns, _⟩ := I1.nolimit; hns.lt
    have keep3 : ∀ b u, b ≠ P → s1.heap.get? b = some u → h3.get? b = some u := fun b u hb e => hx b u hb (Heap.get?_push_of_some _ e)
    refine wpAny_builtinsFor (m := X.mg) (by rw [I1.ok.glob]; exact ((I1.mod.glob.keeps I1.bk).push o).extBut hx TB.gP) e1 e2 (keep3 _ _ e4 (I1.bk _ _ e5)) e6 e7 e8 ?_
    have hLP : L ≠ P := fun z => by
      obtain ⟨_, e, hc1, _, hd1⟩ := _root_.id hIL
      rw [z, hPs] at e
      cases e
      cases hd1
    have hIL3 : h3.IsList L its.toArray := let ⟨ob, e, r⟩ := hIL; ⟨ob, keep3 _ _ hLP e, r⟩
    have hItr3 : h3.IsListIter s1.heap.objs.size L 0 := hitr.at fun u e => hx _ u (Nat.ne_of_gt hPlt) e
    have hlt3 : s1.heap.objs.size < h3.objs.size := by omega
    refine ⟨s1.heap.objs.size, [s1.heap.objs.size, L], [s1.heap.objs.size], its.toArray.size, (fun i v => its.toArray[i]? = some v), (fun i h => h.IsListIter s1.heap.objs.size L i ∧ h.IsList L its.toArray), (fun _ => true),
      (fun i y => y = .bool (truAt f vs i) ∧ i < vs.length), rfl, (fun A' hA => Walks.list hA _ _ (Nat.ne_of_lt hLlt) _), ⟨hItr3, hIL3⟩, ?_, lim2.extBut hx hcP, ?_, ?_, ?_⟩
    · intro b hb
      simp only [List.mem_cons, List.not_mem_nil, or_false] at hb
      show b < h3.objs.size
      rcases hb with z | z
      · rw [z]; exact hlt3
      · rw [z]; exact Nat.lt_trans hLlt hlt3
    · intro z
      simp only [List.mem_cons, List.not_mem_nil, or_false] at z
      exact Nat.ne_of_lt hcl z
    · intro href hhref
      refine ⟨fun A' E' i v s₂ m₂ hA hPv hn hm hk => ?_, fun A' E' i v s₂ m₂ hA hPv hp hn hm hk => ?_⟩
      · simp only [List.forIn_nil]
        exact wpAny_pure ⟨rfl, GxR.keeps_refl _⟩
      · obtain ⟨y, hy, ry⟩ := hat i v hPv
        have hi2 : i < vs.length := (List.getElem?_eq_some_iff.mp hy).1
        have kp2 : ∀ b o, b ≠ P → s1.heap.get? b = some o → s₂.heap.get? b = some o := fun b o hb e =>
          hk b (List.mem_range.mpr (Nat.lt_trans (Heap.lt_size e) hlt3)) (fun z => by
            simp only [List.mem_cons, List.not_mem_nil, or_false] at z
            exact Nat.ne_of_lt (Heap.lt_size e) z) o (hhref b o (keep3 b o hb e))
        have hvis : Vis X.env.scope dn := (S.free _ (PySem.mem_of_lookup S.held) rfl).elim (fun z => .inr (.inl z)) (fun z => .inr (.inr z))
        obtain ⟨m, hnm, hloc⟩ := I1.loc
        obtain ⟨w', rw', hc'⟩ := hloc iD dn (.ref dd) hN hσ hvis
        obtain rfl : w' = Value.ref dd := rw'
        have hdl : X.env.scope.names.lookup dn = some .cell ∨ X.env.scope.names.lookup dn = some .free := S.free _ (PySem.mem_of_lookup S.held) rfl
        obtain ⟨c0, hc0⟩ : ∃ c, (cloFrom X.env.cells scope.names []).lookup dn = some c := by
          obtain ⟨c, hc⟩ := hfree _ (PySem.mem_of_lookup S.held) rfl
          exact mem_lookup (cloFrom_has (cells := X.env.cells) (acc := []) (PySem.mem_of_lookup S.held))
        have hc1 : X.env.cells.lookup dn = some c0 := by
          rcases cloFrom_mem (PySem.mem_of_lookup hc0) with z | ⟨z1, z2⟩
          · cases z
          · obtain ⟨c, hc⟩ := hfree _ z1 rfl
            have hc : X.env.cells.lookup dn = some c := hc
            have e2 : c0 = c := by rw [z2, hc]; rfl
            rw [e2]
            exact hc
        have hcell : s1.heap.IsCell c0 (some (.ref dd)) := by
          rcases hc' with ⟨k', _⟩ | ⟨_, c3, e', z⟩
          · have k' : X.env.scope.names.lookup dn = some .local := k'
            rcases hdl with k2 | k2 <;> rw [k2] at k' <;> cases k'
          · rw [hc1] at e'
            cases e'
            exact z
        have hcP2 : c0 ≠ P := fun z => by
          obtain ⟨_, e, hd⟩ := hcell
          rw [z, hPs] at e
          cases e
          cases hd
        have hcell2 : s₂.heap.IsCell c0 (some (.ref dd)) := by
          obtain ⟨ob, e, hd⟩ := hcell
          exact ⟨ob, kp2 _ _ hcP2 e, hd⟩
        refine wpAny_Compare1 ?_
        refine wpAny_Name (wpAny_loadName_local S.kind S.loc hn hm ?_) hdx
        refine wpAny_Name (wpAny_loadName_free S.kind S.held hc0 hcell2 ?_ hdc) hdd
        refine wpAny_mono (hin A' E' y v s₂ (List.mem_of_getElem? hy) ry kp2) (fun r s₃ hr3 => ?_) fun _ _ e => e
        obtain ⟨hr1, hr2⟩ := hr3
        refine ⟨⟨?_, hi2⟩, hr2⟩
        rw [hr1]
        unfold truAt
        rw [hy]
    · intro g h5 tk5 gs hgb hag hsz5 hk5 W5 hgat
      simp only [GxR.passing_true, List.length_range] at W5
      have hn5 : its.toArray.size = vs.length := by rw [List.size_toArray, hlen]
      rw [hn5] at W5 hgat
      refine hQ vs f H1 g _ q1 ⟨_, _, _, _, _, W5.in4_1, hgat, ?_, fun s' hm => ?_⟩
      · intro j y sj Qj Ej hy hQj
        obtain ⟨i, hij, rfl, hlt⟩ := hy
        obtain ⟨hj, ej⟩ := List.getElem?_eq_some_iff.mp hij
        rw [List.getElem_range] at ej
        subst ej
        exact wpAny_truthy_bool hQj
      · refine hend s' _ (fun b u hb e => hm.heap b u hb (hk5 b u e)) (fun b hb => ?_) (AllBare.movedS (I1.bare.push hgb) hm) hm.os
        rcases List.mem_cons.mp hb with z | z
        · right; rw [z]; exact Nat.le_refl _
        · left
          simpa using z
  refine ⟨lim2, ?_⟩
  have goOn : ∀ {h3 : Heap} {ps' : Array Value} {H2 : Hp} {s' : Shared} {wr : List Addr}, (∀ b u, b ≠ P → s1.heap.get? b = some u → h3.get? b = some u) → s1.heap.objs.size + 1 ≤ h3.objs.size → (∀ b u, b ∉ wr → h3.get? b = some u → s'.heap.get? b = some u) → (∀ b ∈ wr, b = s1.heap.objs.size ∨ h3.objs.size ≤ b) →
      (∀ b u, b ≠ P → s1.heap.get? b = some u → s'.heap.get? b = some u) := fun {h3 ps' H2 s' wr} k3 hz k5 hw b u hb e => by
    refine k5 b u (fun z => ?_) (k3 b u hb e)
    have hlt := Heap.lt_size e
    rcases hw b z with z2 | z2
    · rw [z2] at hlt; exact Nat.lt_irrefl _ hlt
    · have : s1.heap.objs.size + 1 ≤ b := Nat.le_trans hz z2
      exact Nat.lt_irrefl _ (Nat.lt_of_lt_of_le hlt (Nat.le_of_succ_le this))
  cases hf : codeAmong gpos ps.toList with
  | none =>
    refine wpAny_genexprCodeX hcode (cd.code hP2 ht) (cd.tab hP2) hf fun c' h' tk hx hge hlt hco' hrec htab' _ => ?_
    obtain ⟨c2, oc, ovs, t, e2, hoc, hd, hv⟩ := hrec
    cases e2
    have hge1 : s1.heap.objs.size + 1 ≤ c' := by rw [← sz2]; exact hge
    refine cont _ h' tk hx (Nat.le_trans hge (Nat.le_of_lt hlt)) fun s' wr k5 hw hb hos => ?_
    have k3 : ∀ b u, b ≠ P → s1.heap.get? b = some u → h'.get? b = some u := fun b u hb e => hx b u hb (Heap.get?_push_of_some _ e)
    have hz : s1.heap.objs.size + 1 ≤ h'.objs.size := Nat.le_trans hge1 (Nat.le_of_lt hlt)
    have nw : ∀ b, b < h'.objs.size → b ≠ s1.heap.objs.size → b ∉ wr := fun b h1 h2 z => by
      rcases hw b z with z | z
      · exact h2 z
      · exact Nat.lt_irrefl _ (Nat.lt_of_lt_of_le h1 z)
    have nC : H1 c' = none := I1.hok.fresh (Nat.le_of_succ_le hge1)
    have I2 := LamX.inv_table (t' := s'.toks) (more := #[rawInt gpos.line, rawInt gpos.col, .ref c']) (h' := s'.heap) (q := X.env.qual ++ "<genexpr>") I1 hP (goOn (ps' := ps) (H2 := H1) k3 hz k5 hw)
      (k5 P _ (nw P (Nat.lt_of_lt_of_le hPlt (Nat.le_of_succ_le hz)) (Nat.ne_of_lt hPlt)) htab'.2) (Nat.le_of_succ_le hge1) ⟨oc, ovs, t, k5 c' _ (nw c' hlt (Nat.ne_of_gt hge1)) hoc, hd, hv⟩
    obtain ⟨t1, t2⟩ := tabs_more (pos := gpos) tT hmT hu hP nC
    refine ⟨_, t2, t1, ?_⟩
    have nPc : P ≠ c' := ne_of_none hP nC
    have J := GxR.inv_tab (more := #[]) (h' := s'.heap) (g' := s'.gens) (d' := s'.drawn) (t' := s'.toks) (P := P) I2 (by rw [upd_ne nPc, upd_same]) (fun b u _ e => e) (by rw [Array.append_empty]; exact I2.hok P _ (by rw [upd_ne nPc, upd_same])) hb
    rw [Array.append_empty] at J
    have eH : upd (upd (upd H1 P (.tbl (ps ++ #[rawInt gpos.line, rawInt gpos.col, .ref c']))) c' (LamX.CodeO c' (X.env.qual ++ "<genexpr>"))) P (.tbl (ps ++ #[rawInt gpos.line, rawInt gpos.col, .ref c'])) = upd (upd H1 P (.tbl (ps ++ #[rawInt gpos.line, rawInt gpos.col, .ref c']))) c' (LamX.CodeO c' (X.env.qual ++ "<genexpr>")) := by
      funext b
      unfold upd
      by_cases h1 : b = P
      · subst h1; simp [nPc]
      · simp [h1]
    rw [eH] at J
    have J2 := GxR.sh_eta s1 s' hos
    rw [← J2]
    exact J
  | some cv =>
    refine wpAny_genexprCode_hit hcode (cd.code hP2 ht) hf ?_
    refine cont cv (s1.heap.push o) s1.toks (Heap.ExtBut.refl _ _) (Nat.le_refl _) fun s' wr k5 hw hb hos => ?_
    refine ⟨H1, LamX.ExtN.refl H1, tT, ?_⟩
    have hz : s1.heap.objs.size + 1 ≤ (s1.heap.push o).objs.size := Nat.le_of_eq sz2.symm
    have kk := goOn (ps' := ps) (H2 := H1) (s' := s') (wr := wr) (h3 := s1.heap.push o) (fun b u _ e => Heap.get?_push_of_some _ e) hz k5 hw
    have kP : s'.heap.get? P = some { cls := .none, data := .fields ps } := k5 P _ (fun z => by
      rcases hw P z with z | z
      · exact Nat.ne_of_lt hPlt z
      · exact Nat.lt_irrefl _ (Nat.lt_of_lt_of_le hPlt (Nat.le_trans (Nat.le_of_succ_le hz) z))) hP2
    have J := GxR.inv_tab (more := #[]) (h' := s'.heap) (g' := s'.gens) (d' := s'.drawn) (t' := s'.toks) (P := P) I1 hP kk (by rw [Array.append_empty]; exact kP) hb
    rw [Array.append_empty] at J
    have eH : upd H1 P (.tbl ps) = H1 := by
      funext b
      unfold upd
      by_cases h1 : b = P
      · subst h1; simp [hP]
      · simp [h1]
    rw [eH] at J
    rw [← GxR.sh_eta s1 s' hos]
    exact J
def tAllIn (X : Cx) (T : List (Addr × Str)) (P : Addr) (iD : Nat) (te : TE) : TE := fun σ H Q => te σ H fun v H1 => LamX.Tabs T H1 ∧ ∃ (L dd : Addr) (vs : List V) (f : V → Bool), v = .ref L ∧ SqL X.K H1 L vs ∧ σ[iD]? = some (some (.ref dd)) ∧
  (∀ pins s1, Inv X pins σ H1 s1 → InTest X P dd f vs s1) ∧ ∀ H2, LamX.ExtN H1 H2 → LamX.Tabs T H2 → Q (.bl (vs.all f)) H2
theorem pe_allIn {T : List (Addr × Str)} {c P : Addr} {iter : Expr} {x dn : Str} {px gpos p1 p2 p3 p pos : Pos} {scope : Scope} {te : TE} {k iD : Nat}
    (hr : Room k X.A) (hg : Gl X "all") (hm : X.mg "all" = none) (hb : bootBuiltins "all" = some (.builtin "all")) (TB : LamX.TabB X.base X.mg c P) (hcode : X.env.code = .ref c) (hmT : (P, X.env.qual ++ "<genexpr>") ∈ T) (hu : ∀ p ∈ T, p.1 = P → p.2 = X.env.qual ++ "<genexpr>")
    (S : AllSc X.env.scope scope x dn) (hN : X.N[iD]? = some dn) (hi : PE X iter te) (hs : ∀ v, genFold iter X.env v = pure v)
    (he : starEach [.GeneratorExp (.Compare (.Name x p1) [.In] [.Name dn p2] p3) [⟨.Name x px, iter, [], 0⟩] scope gpos] X.env = (false, eval (.GeneratorExp (.Compare (.Name x p1) [.In] [.Name dn p2] p3) [⟨.Name x px, iter, [], 0⟩] scope gpos) X.env) :: starEach [] X.env := by rfl)
    (hdx : (x == ("__debug__" : Str)) = false := by decide) (hdd : (dn == ("__debug__" : Str)) = false := by decide) (hdc : (dn == ("__classdict__" : Str)) = false := by decide) :
    PE X (.Call (.Name "all" p) [.GeneratorExp (.Compare (.Name x p1) [.In] [.Name dn p2] p3) [⟨.Name x px, iter, [], 0⟩] scope gpos] [] pos) (tAllIn X T P iD te) := by
  refine ⟨fun pins s σ H Q I h => ?_⟩
  refine wpAny_Call_Name_kw (ld_blt I hg hm hb ?_)
  refine PyProof.Rows.callWith_builtin1 ?_ he (by rfl)
  rw [he]
  show wpAny _ _ (spliced ((false, eval (.GeneratorExp _ _ scope gpos) X.env) :: backTo pos (starEach [] X.env))) _ _ s
  refine Calls.spliced_cons (gen_in (R := fun vs f H1 => ∀ H2, LamX.ExtN H1 H2 → LamX.Tabs T H2 → Q (.bl (vs.all f)) H2) hr TB hcode hmT hu S hN hi hs I h (fun vs f H1 g s5 hR hG => ?_) hdx hdd hdc)
  · obtain ⟨fp, wr, G, F, St, W, hst, htr, hI⟩ := hG
    refine Calls.spliced_nil ?_
    refine call_all_walkS (W.self 0 _ _ _ hst ⟨g, fp, wr, G, _, F, St, _, rfl, W, hst, htr, fun s' hmv => ?_⟩)
    obtain ⟨H2, h1, h2, J⟩ := hI s' hmv
    refine ⟨.bl _, H2, J, rfl, ?_⟩
    rw [truAt_all]
    exact hR H2 h1 h2
end
def inAllE (kvs : List (EV × EV)) : List EV → Option Bool
  | [] => some true
  | w :: r => match dgetE false kvs w, inAllE kvs r with
    | some o, some b => some (o.isSome && b)
    | _, _ => none
def dAllIn (iD : Nat) (d : DE) : DE := fun es h => (d es h).bind fun v h1 => match v, es[iD]? with
  | .ref n, some (some (.ref m)) => match lstAt h1 n, dicAt h1 m with
    | some ws, some (false, kvs) => match inAllE kvs ws with
      | some b => .ok (.bl b) h1
      | none => .no
    | _, _ => .no
  | .ref n, some (some (.tup ys)) => match lstAt h1 n with
    | some ws => match intsE ws, intsE ys with
      | some l, some m => .ok (.bl (l.all fun i => decide (i ∈ m))) h1
      | _, _ => .no
    | none => .no
  | _, _ => .no
def isK (l : List (Key × V)) (v : V) : Bool := match v with
  | .int i => (valV l (.inl i)).isSome
  | .str x => (valV l (.inr x)).isSome
  | _ => false
theorem isK_k (l : List (Key × V)) (k : Key) : isK l (kV k) = (valV l k).isSome := by cases k <;> rfl
section
variable {X : Cx} {ct : Nat → Addr × List Str} {E : XK}
theorem inAll_of {ρ : Rho} {H : Hp} {kvs : List (EV × EV)} {l : List (Key × V)} (hk : KR keyOf (VR X.K ρ H) kvs l) :
    ∀ {ws : List EV} {vs : List V} {b : Bool}, inAllE kvs ws = some b → VRs X.K ρ H ws vs → (∀ v ∈ vs, ∃ k, v = kV k) ∧ vs.all (isK l) = b := by
  intro ws
  induction ws with
  | nil =>
    intro vs b h hv
    obtain rfl := vrs_nil.mp hv
    cases h
    exact ⟨(fun v hv => nomatch hv), rfl⟩
  | cons w r ih =>
    intro vs b h hv
    obtain ⟨y, t, rfl, h1, h2⟩ := vrs_cons.mp hv
    unfold inAllE at h
    split at h
    · rename_i o b2 e1 e2
      cases h
      obtain ⟨g1, g2⟩ := ih e2 h2
      obtain ⟨k, e4, rfl⟩ := Option.map_eq_some_iff.mp e1
      have ek := keyOf_eq e4 h1
      have ev := (hk.val k).isSome
      refine ⟨fun v hv => ?_, ?_⟩
      · rcases List.mem_cons.mp hv with rfl | hv
        · exact ⟨k, ek⟩
        · exact g1 v hv
      · rw [List.all_cons, g2, ek, isK_k, ← ev]
    · cases h
theorem dk_test {P dd : Addr} {vs : List V} {H : Hp} {σ : L2.St} {pins : List (Addr × Obj)} {s1 : Shared} {l : List (Key × V)} (I : Inv X pins σ H s1) (hd : Rd H dd (.dK l)) (hP : ∃ ps, H P = some (.tbl ps)) (hk : ∀ v ∈ vs, ∃ k, v = kV k) : InTest X P dd (isK l) vs s1 := by
  intro A' E' v u s₂ hv rv kp
  obtain ⟨k, rfl⟩ := hk v hv
  obtain ⟨hz, hn, ws, rel, hdd⟩ := dk_rd I.hok hd
  have hdP : dd ≠ P := by
    rintro rfl
    obtain ⟨ps, hP⟩ := hP
    rcases hd with z | ⟨o, z⟩ <;> rw [hP] at z <;> cases z
  have hd2 : s₂.heap.DictOf (mixKind X.prog X.w) dd ws := by
    obtain ⟨o, es, ep, ho, r⟩ := hdd
    exact ⟨o, es, ep, kp _ _ hdP ho, r⟩
  refine wpAny_in_of (kV_is rv) hn hd2.mapOf ⟨?_, GxR.keeps_tok _ _⟩
  rw [isK_k, (rel.val k).isSome_eq]
theorem tup_test {P dd : Addr} {vs xs : List V} {H : Hp} {σ : L2.St} {pins : List (Addr × Obj)} {s1 : Shared} (I : Inv X pins σ H s1) (hd : H dd = some (.tup xs)) (hP : ∃ ps, H P = some (.tbl ps)) (hv : ∀ v ∈ vs, flatV v = true) (hx : xs.all flatV = true) : InTest X P dd (fun v => inV v xs) vs s1 := by
  intro A' E' v u s₂ hm rv kp
  have hdP : dd ≠ P := by
    rintro rfl
    obtain ⟨ps, hP⟩ := hP
    rw [hP] at hd
    cases hd
  obtain ⟨its, r, pl, hz⟩ := I.tuple (SqT.of hd)
  obtain ⟨o, e, hc, n, hdat⟩ := pl
  have pl2 : s₂.heap.IsTuple dd its.toArray := ⟨o, kp _ _ hdP e, hc, n, hdat⟩
  have fx := hv v hm
  refine SeqAt.in_tupleAt (eqU v) pl2 (fun w hw => mem_eqAt rv fx r hx w (by simpa using hw)) ⟨?_, ?_⟩
  · rw [show its.toArray.any (eqU v) = its.any (eqU v) by simp, any_eqU r hx]
    rfl
  · exact ⟨_, _, rfl, fun _ _ e => e⟩
theorem inV_ints (i : Int) (m : List Int) : inV (.int i) (m.map V.int) = decide (i ∈ m) := by
  unfold inV
  rw [List.any_map, Bool.eq_iff_iff]
  simp only [List.any_eq_true, Function.comp_apply, decide_eq_true_eq]
  constructor
  · rintro ⟨a, ha, hb⟩
    have : a = i := by simpa [eqV] using hb
    exact this ▸ ha
  · exact fun h => ⟨i, h, by simp [eqV]⟩
theorem xe_allIn {c P : Addr} {iter : Expr} {x dn : Str} {px gpos p1 p2 p3 p pos : Pos} {scope : Scope} {d : DE} {k iD : Nat}
    (hr : Room k X.A) (hg : Gl X "all") (hm : X.mg "all" = none) (TB : LamX.TabB X.base X.mg c P) (hcode : X.env.code = .ref c) (hmT : (P, X.env.qual ++ "<genexpr>") ∈ tabOf ct) (hu : ∀ p ∈ tabOf ct, p.1 = P → p.2 = X.env.qual ++ "<genexpr>")
    (S : AllSc X.env.scope scope x dn) (hN : X.N[iD]? = some dn) (hi : PEd X ct E iter d) (hs : ∀ v, genFold iter X.env v = pure v)
    (he : starEach [.GeneratorExp (.Compare (.Name x p1) [.In] [.Name dn p2] p3) [⟨.Name x px, iter, [], 0⟩] scope gpos] X.env = (false, eval (.GeneratorExp (.Compare (.Name x p1) [.In] [.Name dn p2] p3) [⟨.Name x px, iter, [], 0⟩] scope gpos) X.env) :: starEach [] X.env := by rfl)
    (hb : bootBuiltins "all" = some (.builtin "all") := by rfl) (hdx : (x == ("__debug__" : Str)) = false := by decide) (hdd : (dn == ("__debug__" : Str)) = false := by decide) (hdc : (dn == ("__classdict__" : Str)) = false := by decide) :
    PEd X ct E (.Call (.Name "all" p) [.GeneratorExp (.Compare (.Name x p1) [.In] [.Name dn p2] p3) [⟨.Name x px, iter, [], 0⟩] scope gpos] [] pos) (dAllIn iD d) := by
  obtain ⟨t, a1, a2⟩ := hi
  refine ⟨_, pe_allIn (T := tabOf ct) hr hg hm hb TB hcode hmT hu S hN a1 hs he hdx hdd hdc, fun ρ σ H es eh Q rel h => ?_⟩
  refine a2.bind rel h fun ρ1 H1 v eh1 y e1 rel1 v1 h1 => ?_
  split at h1
  · rename_i n m hc
    split at h1
    · rename_i ws kvs hw hd
      split at h1
      · rename_i b hb2
        obtain ⟨L, vs, g1, g2, g3⟩ := lst_of rel1.hr hw
        obtain ⟨L', q1, rfl⟩ := vr_ref.mp v1
        rw [g1] at q1
        cases q1
        obtain ⟨dd, u, k1, k2, l, rfl, k4⟩ := dic_of rel1.hr hd
        obtain ⟨w, hw1, hw2⟩ := rel1.1.2 iD _ hc
        obtain ⟨dd', q2, rfl⟩ := vr_ref.mp hw2
        rw [k1] at q2
        cases q2
        obtain ⟨j1, j2⟩ := inAll_of k4 hb2 g3
        refine ⟨rel1.hr.tab, L, dd, vs, isK l, rfl, g2, hw1, fun pins s1 I1 => dk_test I1 k2 ?_ j1, fun H2 eN t1 => ?_⟩
        · obtain ⟨ps, z, _⟩ := rel1.hr.tab _ hmT
          exact ⟨ps, z⟩
        · rw [j2]
          exact h1 ρ1 H2 _ (extN_ext eN) (extN_hr rel1.hr eN t1) (vr_bl.mpr rfl)
      · exact h1.elim
    · exact h1.elim
  · rename_i n ys hc
    split at h1
    · rename_i ws hw
      split at h1
      · rename_i l m hl hm2
        obtain ⟨L, vs, g1, g2, g3⟩ := lst_of rel1.hr hw
        obtain ⟨L', q1, rfl⟩ := vr_ref.mp v1
        rw [g1] at q1
        cases q1
        obtain ⟨w, hw1, hw2⟩ := rel1.1.2 iD _ hc
        obtain ⟨dd, us, rfl, k1, k2⟩ := vr_tup.mp hw2
        rw [intsE_eq hl] at g3
        rw [intsE_eq hm2] at k2
        have ev := VRs.of_ints g3
        have eu := VRs.of_ints k2
        subst ev eu
        refine ⟨rel1.hr.tab, L, dd, l.map V.int, fun v => inV v (m.map V.int), rfl, g2, hw1, fun pins s1 I1 => tup_test I1 k1 ?_ (fun v hv => ?_) (by simp [flatV]), fun H2 eN t1 => ?_⟩
        · obtain ⟨ps, z, _⟩ := rel1.hr.tab _ hmT
          exact ⟨ps, z⟩
        · obtain ⟨i, _, rfl⟩ := List.mem_map.mp hv
          rfl
        · have e : (l.map V.int).all (fun v => inV v (m.map V.int)) = l.all fun i => decide (i ∈ m) := by
            rw [List.all_map]
            congr 1
            funext i
            exact inV_ints i m
          rw [e]
          exact h1 ρ1 H2 _ (extN_ext eN) (extN_hr rel1.hr eN t1) (vr_bl.mpr rfl)
      · exact h1.elim
    · exact h1.elim
  · exact h1.elim
end
end EE
set_option Elab.async false
set_option linter.all false
set_option maxRecDepth 100000
set_option maxHeartbeats 1000000
namespace EE
open PySem PySem.Spec PyProof.Rows L2
def spFrz (sp : Sp) : Sp := fun vs H Q E => sp vs H Q E ∨ ∃ a xs, vs = [.ref a] ∧ H a = some (.lst xs) ∧ ∀ o, sp vs (upd H a (.frz o (.lst xs))) Q E
theorem fn_frz {P : Program} {w : World} {K : Fg} {mg : Str → Option Value} {base : Heap} {k : Nat} {f : Addr} {fd : FuncData} {ps : List Str} {sp : Sp} (F : FnOk P w K mg base CX0 k f fd ps sp) : FnOk P w K mg base CX0 k f fd ps (spFrz sp) := by
  refine ⟨fun vs H Q E h => ?_, fun A outer s H args us vs Q E hr e0 hb rv h => ?_⟩
  · rcases h with h | ⟨a, xs, _, _, h⟩
    · exact F.len vs H Q E h
    · exact F.len vs _ Q E (h { cls := .none, data := .plain })
  · rcases h with h | ⟨a, xs, _, ha, h⟩
    · exact F.run A outer s H args us vs Q E hr e0 hb rv h
    · obtain ⟨hz, its, n, ri, ho⟩ := e0.hok a _ ha
      have at_ : ∀ b, b ≠ a → upd H a (.frz { cls := .type "list", data := .seq its.toArray n } (.lst xs)) b = H b := fun b hb => upd_ne hb
      have nn : ∀ b, H b = none → b ≠ a := fun b hb => by
        rintro rfl
        rw [ha] at hb
        cases hb
      have e1 : Env0 P w K mg base A outer s (upd H a (.frz { cls := .type "list", data := .seq its.toArray n } (.lst xs))) := by
        refine ⟨e0.frames, e0.mod, fun b o e => ?_, e0.bsz, e0.funs, fun b hb => ?_, fun b o e => ?_, e0.bare⟩
        · obtain ⟨h1, h2⟩ := e0.bs b o e
          exact ⟨h1, by rw [at_ b (nn b h2)]; exact h2⟩
        · have h2 := e0.frf b hb
          rw [at_ b (nn b h2)]
          exact h2
        · by_cases hba : b = a
          · subst hba
            rw [upd_same] at e
            cases e
            exact ⟨ho, hz, its, n, ri, ho⟩
          · rw [at_ b hba] at e
            refine (e0.hok b o e).stay (fun _ _ _ q => q) (fun c q => ?_) fun c ys q => ?_
            · rw [at_ c (fun z => by rw [z, ha] at q; cases q)]
              exact q
            · rw [at_ c (fun z => by rw [z, ha] at q; cases q)]
              exact q
      refine codeAny_mono (F.run A outer s _ args us vs Q E hr e1 hb rv (h _)) fun r s' hq => ?_
      cases r with
      | error e => exact hq
      | ok fl =>
        cases fl with
        | ret u =>
          obtain ⟨v, H', g1, g2, g3, g4, g5, g6⟩ := hq
          refine ⟨v, H', g1, g2, ?_, g4, g5, g6⟩
          refine ⟨fun b o q m => g3.keep b o q (by rw [at_ b (nn b m)]; exact m), fun b o q m => g3.slot b o q (by rw [at_ b (nn b m)]; exact m), fun b o q m => g3.free b o q (by rw [at_ b (nn b m)]; exact m), g3.there, fun b ys q => ?_, fun b ob u q => ?_, fun b ys q => ?_⟩
          · exact g3.tups b ys (by rw [at_ b (fun z => by rw [z, ha] at q; cases q)]; exact q)
          · exact g3.frzs b ob u (by rw [at_ b (fun z => by rw [z, ha] at q; cases q)]; exact q)
          · exact g3.tbls b ys (by rw [at_ b (fun z => by rw [z, ha] at q; cases q)]; exact q)
        | next => exact hq
        | brk => exact hq
        | cont => exact hq
theorem fn_dC {P : Program} {w : World} {K : Fg} {mg : Str → Option Value} {base : Heap} {ct : Nat → Addr × List Str} {x qual : Str} {st : Stmt} {f : Addr} {oc : Value} {od an : Option Addr} {osl : Array (Option Value)} {kV doc pm cdv cc : Value} {N ps : List Str} {k : Nat} {d : DS}
    (l : K.lookup f = some ⟨oc, od, .func (PySem.W.fnOf x qual (defArgs st) (defBody st) (defScope st) .none kV doc pm an cdv cc), osl⟩) (c : PySem.W.codeIn K cdv qual = true) (S : FnScope N ps (defScope st))
    (h : ∀ (A : Around) (outer : List Env) (s : Shared) (H : Hp) (E : XK), Room k (A.deeper (envOfC qual (defScope st) s.heap.objs.size f cdv)) → PSsd (cxOf CX0 P w K mg base N qual (defScope st) f cdv A outer s H E).nox ct E0 (defBody st) d) :
    FnOk P w K mg base CX0 (k + 1) f (PySem.W.fnOf x qual (defArgs st) (defBody st) (defScope st) .none kV doc pm an cdv cc) ps (spD0 ⟨K, ct⟩ (dDef ps.length N.length d)) := by
  refine fn_of l c S (fun vs H Q E hs => ?_) fun A outer s H vs Q E hr hs => ?_
  · obtain ⟨ρ, xs, eh, h1, h2, h3⟩ := hs
    rw [← h1.length]
    unfold dDef at h3
    split at h3
    · assumption
    · exact h3.elim
  · obtain ⟨ρ, xs, eh, h1, h2, h3⟩ := hs
    obtain ⟨t, b1, b2⟩ := h A outer s H E hr
    refine ⟨t, b1.nox, b2 ρ (L2.start N vs) H _ eh _ ⟨sr_start N h1, h2⟩ ?_⟩
    unfold dDef at h3
    split at h3
    · cases q : d (xs.map some ++ List.replicate (N.length - xs.length) none) eh with
      | no => rw [q] at h3; exact h3
      | er z h' => rw [q] at h3; exact h3
      | ok fl h' =>
        rw [q] at h3
        intro ρ' H' vf e hr' rf
        cases fl with
        | nx es' =>
          cases vf with
          | nx σ' => exact h3 ρ' H' .non e hr' (vr_non.mpr rfl)
          | _ => exact rf.elim
        | rt v =>
          cases vf with
          | rt u => exact h3 ρ' H' u e hr' rf
          | _ => exact rf.elim
        | bk _ => exact h3.elim
        | ct _ => exact h3.elim
    · exact h3.elim
def codeTab (K : Fg) (cdv : Value) : Option (Addr × Addr) := match cdv with
  | .ref c => match K.lookup c with
    | some ⟨_, _, .fields vs, _⟩ => match (vs[11]? : Option Value) with
      | some (.ref P) => some (c, P)
      | _ => none
    | _ => none
  | _ => none
theorem codeTab_of {K : Fg} {cdv : Value} {c P : Addr} (h : codeTab K cdv = some (c, P)) : cdv = .ref c ∧ ∃ (e : Value) (dd : Option Addr) (vs : Array Value) (sl : Array (Option Value)), K.lookup c = some ⟨e, dd, .fields vs, sl⟩ ∧ vs[11]? = some (.ref P) := by
  unfold codeTab at h
  split at h
  · split at h
    · rename_i e dd vs sl e1
      split at h
      · rename_i Q e2
        cases h
        exact ⟨rfl, e, dd, vs, sl, e1, e2⟩
      · cases h
    · cases h
  · cases h
def OwnTabs (K : Fg) (mg : Str → Option Value) (h : Heap) (xs : List Str) : Prop := ∀ x ∈ xs, ∀ fa : Addr, mg x = some (.ref fa) → LamX.OwnTab K fa h
theorem walk_ofTabs (xs : List Str) {l : PySem.W.OpenLaw} {n k : Nat} {q : Program} {loose : List Str} {XP : (Str → Option Value) → Heap → Prop} {YP : World → Heap → Prop} {d : DefRec} {K : Params → Fg} {x : Str}
    (hn : l.most = some n) (hn2 : n ≤ sizeLine) (hdf : d.params.defaults = []) (hr : Room k callerA) (hrec : (xs.all fun x => (recsOf q).any fun e => e.name == x) = true) (hY : ∀ (w : World) (h : Heap), YP w h → (K w.params).In h)
    (F : ∀ (w : World) (mg : Str → Option Value) (fa : Addr) (h : Heap), YP w h → (K w.params).In h → h.Ns mainGlobals mg → mg d.name = some (.ref fa) → OwnTabs (K w.params) mg h xs → LamX.LawAtS l w (K w.params) CX0 k n x mg fa h) :
    PySem.W.WalkO q loose XP YP l.row.toRowW d [] (fun f vs => PySem.call f vs) := by
  refine Att.attach_callB hn hdf fun w s₀ s₁ mg mb fa o pm cd doc a vs ns G Y ho hd hcd hmg hobj hints hlen hbits hg => ?_
  have KX := hY w _ Y
  have own : OwnTabs (K w.params) mg s₁.heap xs := fun y hy fb hfb c P o1 fd1 e dd vs1 sl k1 k2 k3 k4 k5 => by
    obtain ⟨r, hm, hr2⟩ := List.any_eq_true.mp (List.all_eq_true.mp hrec y hy)
    obtain ⟨a2, o2, fd2, c2, P2, h1, h2, h3, h4, h5, h6⟩ := G.T.tab r hm
    rw [beq_iff_eq.mp hr2, hfb] at h1
    cases h1
    rw [KX _ _ k1] at h2
    cases h2
    rw [k2] at h3
    cases h3
    rw [k3] at h4
    cases h4
    obtain ⟨⟨oc, vc, e1, _, e3, e4⟩, hP⟩ := h6
    rw [KX _ _ k4] at e1
    cases e1
    cases e3
    rw [k5] at e4
    cases e4
    exact hP
  obtain ⟨fd, cs, sp, hT, nT, C, hb, hsp, hF⟩ := F w mg fa _ Y KX G.T.g hmg own
  exact LamX.law_callTs KX G.T.g G.T.b G.T.builtins G.T.nolimit hg hT nT C G.T.bmain hobj hints (Nat.le_trans hlen hn2) hr hF hb (fun H hH hS => hsp H a ns hlen hbits hH hS) fun H e s' z => z
theorem law_spT {K : Fg} {ct : Nat → Addr × List Str} {fn : DL} (hl : LawOk fn) {H : Hp} {a : Addr} {ns : List Int} (hn : ns.length ≤ 63) (hS : SqL K H a (ns.map V.int)) (hT : ∀ p ∈ tabOf ct, H p.1 = some (.tbl #[])) :
    spFrz (spD0 ⟨K, ct⟩ fn) [.ref a] H (fun v _ => v = .bl true) E0 := by
  obtain ⟨h', e⟩ := hl ns hn
  have key : ∀ H : Hp, (∀ p ∈ tabOf ct, H p.1 = some (.tbl #[])) → RoL K H a (ns.map V.int) → spD0 ⟨K, ct⟩ fn [.ref a] H (fun v _ => v = .bl true) E0 := by
    intro H hT hro
    refine ⟨[(false, a)], [.ref 0], [.ro (ns.map EV.int)], VRs.one (vr_ref.mpr ⟨a, rfl, rfl⟩), ⟨fun p hp => LamX.TabS.nil (hT p hp), rfl, fun m n b h1 h2 => ?_, fun n o ho => ?_⟩, ?_⟩
    · cases m with
      | zero => simp at h1
      | succ m => simp at h1
    · cases n with
      | zero =>
        simp only [List.getElem?_cons_zero, Option.some.injEq] at ho
        subst ho
        exact ⟨a, rfl, ns.map V.int, hro, VRs.ints ns⟩
      | succ n => simp at ho
    · rw [e]
      intro ρ' H' u _ _ hv
      exact vr_bl.mp hv
  rcases hS with (h | ⟨o, h⟩) | h
  · refine .inr ⟨a, _, rfl, h, fun o => key _ (fun p hp => ?_) (.inl ⟨o, upd_same⟩)⟩
    have h1 := hT p hp
    rw [upd_ne (fun z => by rw [z, h] at h1; cases h1)]
    exact h1
  · exact .inl (key H hT (.inl ⟨o, h⟩))
  · exact .inl (key H hT (.inr h))
end EE
set_option Elab.async false
set_option linter.all false
set_option maxRecDepth 100000
set_option maxHeartbeats 1000000
namespace EE
open PySem PySem.Spec PyProof.Rows L2
def fRev : EV → EH → Res EV := fun x h => match x with
  | .ref m => match lstAt h m with
    | some xs => .ok (.ref h.length) (h ++ [.lst xs.reverse])
    | none => .no
  | _ => .no
def dRev (a : DE) : DE := fun es h => (a es h).bind fRev
section
variable {X : Cx} {ct : Nat → Addr × List Str} {E : XK}
theorem xe_revL {a : Expr} {k : Nat} {p1 p2 p3 pos : Pos} {da : DE} (ha : PEd X ct E a da) : PEd X ct E (.Subscript a (.Slice none none (some (.UnaryOp .USub (.Constant (.int 1) k p1) p2)) p3) pos) (dRev da) := by
  obtain ⟨t, h1, h2⟩ := ha
  refine ⟨_, pe_revL h1, fun ρ σ H es eh Q rel h => ?_⟩
  refine h2.bind rel h fun ρ1 H1 x eh1 u e1 rel1 v1 h3 => ?_
  unfold fRev at h3
  split at h3
  · rename_i m
    split at h3
    · rename_i xs e4
      obtain ⟨a1, vs, g1, g2, g3⟩ := lst_of rel1.hr e4
      obtain ⟨a', q1, rfl⟩ := vr_ref.mp v1
      rw [g1] at q1; cases q1
      exact ⟨a1, vs, rfl, g2, new_lst rel1.hr g3.rev h3⟩
    · exact h3.elim
  · exact h3.elim
end
def TxC (K : Fg) (mg : Str → Option Value) (x : Str) (st : Stmt) (ps : List Str) (c : Addr) : Prop := ∃ (f : Addr) (oc : Value) (od : Option Addr) (kV doc pm : Value) (an : Option Addr) (cc : Value) (osl : Array (Option Value)),
  K.lookup f = some ⟨oc, od, .func (PySem.W.fnOf x x (defArgs st) (defBody st) (defScope st) .none kV doc pm an (.ref c) cc), osl⟩ ∧ PySem.W.codeIn K (.ref c) x = true ∧ PySem.W.keepIn K (.ref f) = true ∧ mg x = some (.ref f) ∧
  Binds K (PySem.W.fnOf x x (defArgs st) (defBody st) (defScope st) .none kV doc pm an (.ref c) cc) ps []
section
variable {P : Program} {w : World} {K : Fg} {mg : Str → Option Value} {base : Heap} {ct : Nat → Addr × List Str}
theorem fndC_mk {x : Str} {st : Stmt} {N ps : List Str} {k : Nat} {d : DS} {c : Addr} (T : TxC K mg x st ps c) (S : FnScope N ps (defScope st))
    (h : ∀ (f : Addr) (A : Around) (outer : List Env) (s : Shared) (H : Hp) (E : XK), Room k (A.deeper (envOfC x (defScope st) s.heap.objs.size f (.ref c))) → PSsd (cxOf CX0 P w K mg base N x (defScope st) f (.ref c) A outer s H E).nox ct E0 (defBody st) d) :
    FnD P w K mg base ct (k + 1) x (dDef ps.length N.length d) := by
  obtain ⟨f, oc, od, kV, doc, pm, an, cc, osl, l, hc, hk, hm, hb⟩ := T
  exact ⟨f, _, ps, fn_dC l hc S (h f), hm, hk, hb⟩
end
theorem xe_wordT {X : Cx} {ct : Nat → Addr × List Str} {E : XK} {x a e n : Str} {st : Stmt} {c P news : Addr} {k : Nat} {Ng : List Str} {b0 : Stmt} {suite : List Stmt} {p1 p2 p3 p4 p7 p8 : Pos}
    {params : Arguments} {body : Expr} {scope : Scope} {p lpos pos : Pos} {raised : Nat → Prop} {dS : Nat → Addr → Option Addr → DS} {rs : Nat → List EV → EH → Option (EV × EH)} {d : DE}
    (T : Tx X.K X.mg x st [a]) (hst : defBody st = [.Try [.Return (some (.Call (.Name a p1) [] [] p2)) p3] [.ExceptHandler (some (.Name e p4)) (some n) (b0 :: suite) p7] [] [] p8]) (hg : Gl X x)
    (Sg : FnScope Ng [a] (defScope st)) (hNg : Ng[0]? = some a) (hva : Vis (defScope st) a)
    (hge : (defScope st).names.lookup e = some .globalImplicit) (hme : X.mg e = some (.ref news)) (hde : (e == ("__debug__" : Str)) = false) (h0 : ∀ f : Addr, (L2.start Ng [V.ref f])[0]? = some (some (V.ref f))) (hn : Ng[1]? = some n) (hln : (defScope st).names.lookup n = some .local) (h5 : Ng.length = 5)
    (hex : ∀ c, raised c → PySem.W.exmOne X.K (.ref (ct c).1) (.ref news) = some true)
    (hS : ∀ (g : Addr) (cdv : Value) (s : Shared) (H : Hp), SuiteD ((cxOf C8.CX0 X.prog X.w X.K X.mg X.base Ng x (defScope st) g cdv X.A X.stack s H C8.E0).nox) ct raised b0 suite dS)
    (TB : LamX.TabB X.base X.mg c P) (hcode : X.env.code = .ref c) (hmT : (P, X.env.qual ++ "<lambda>") ∈ tabOf ct) (hu : ∀ p ∈ tabOf ct, p.1 = P → p.2 = X.env.qual ++ "<lambda>") (hr : Room (k + 2) X.A) (L : LamX.LamS X.env.scope scope) (hdef : defaultsOf params X.env = ([], []))
    (hbind : ∀ (q : Str) (cl : List (Str × Addr)) (pm cv ctv : Value), bindArgs (PySem.W.kla_fn "<lambda>" q params body scope cl pm cv ctv) ⟨[], []⟩ = pure [])
    (hbody : ∀ (A : Around) (outer : List Env) (s : Shared) (H : Hp) (E : XK) (f c' : Addr), Room k (A.deeper (LamX.lamEnv X scope s.heap.objs.size f c')) → TkE (LamX.lamCx X A outer s H E scope f c') E → PEd (LamX.lamCx X A outer s H E scope f c') ct E body d)
    (hrs : ∀ (c : Nat) (a : Addr) (dd : Option Addr) (fs : List EV) (h1 : EH) (v : EV) (h2 : EH), rs c fs h1 = some (v, h2) → dd.isSome = !fs.isEmpty → raised c ∧ dS c a dd [none, some (.exc a dd (ct c).2 fs), none, none, none] h1 = .ok (.rt v) h2)
    (hdb : (x == ("__debug__" : Str)) = false := by decide) (hd : (a == ("__debug__" : Str)) = false := by decide) (hcd : (a == ("__classdict__" : Str)) = false := by decide) :
    PEd X ct E (.Call (.Name x p) [.Lambda params body scope lpos] [] pos) (dWord rs d) := by
  obtain ⟨f, fd, F, hm, hb⟩ := T
  obtain ⟨oc, od, kV, doc, pm, an, cdv, ctv, osl, rfl, lk, hcg⟩ := F.ex
  rw [hst] at lk hb
  exact xe_word hg hm F.kp lk hcg hb Sg hNg hva hge hme hde h0 hn hln h5 hex (hS f cdv) TB hcode hmT hu hr L hdef hbind hbody hrs hdb hd hcd
end EE
set_option Elab.async false
set_option linter.all false
set_option maxRecDepth 100000
set_option maxHeartbeats 1000000
namespace EE
open PySem PySem.Spec PyProof.Rows L2
structure XwD (K : Fg) (C news : Addr) : Prop where
  xi : XiD K C
  xf : XfC K C
  ex : PySem.W.exmOne K (.ref C) (.ref news) = some true
  ve : PySem.W.kitOne K (.ref C) (.type "ValueError") = some true
theorem xwD_of {K : Fg} {C news : Addr} {cd : ClassData} (cl : PySem.W.clsIn K C = some cd)
    (ga : PySem.W.findIn K (.ref C) "__getattribute__" = some (some (.builtin "BaseException.__getattribute__"))) (gg : PySem.W.findIn K (.ref C) "__getattr__" = some none) (sb : PySem.W.subIn K (.ref C) (.type "BaseException") = some true)
    (cc : PySem.W.findIn K (.ref C) "__class__" = some (some (.builtin "object.__class__"))) (gs : PySem.W.specialIn K (.builtin "object.__class__") "__get__" = some (some (.builtin "getset_descriptor.__get__")))
    (tk : PySem.W.takesIn K (.builtin "object.__class__") = some true) (ob : PySem.W.mroIn K C (.type "object") = some true) (hd : PySem.W.hasDictIn K C = true) (ex : PySem.W.exmOne K (.ref C) (.ref news) = some true) (ve : PySem.W.kitOne K (.ref C) (.type "ValueError") = some true) : XwD K C news :=
  ⟨⟨by rw [cl]; rfl, ga, gg, sb, cc, gs, tk, ob⟩, ⟨ga, gg, sb, hd⟩, ex, ve⟩
def IsKit (K : Fg) (mg : Str → Option Value) (C : Addr) (x : Str) (b : Bool) : Prop := ∃ D : Addr, mg x = some (.ref D) ∧ PySem.W.kitOne K (.ref C) (.ref D) = some b
theorem supD_of {P : Program} {w : World} {K : Fg} {mg : Str → Option Value} {st : Stmt} {C cc cda f : Addr} {a1 a2 fld c1 c2 : Str} {j1 j2 : Nat} {p0 p1 p2 p3 p4 p5 p6 p7 p8 p9 p10 p11 p12 p13 : Pos} {qual file : Str}
    {kV doc pm ct oc ccl cl : Value} {an od cdd cld : Option Addr} {osl ccs csl : Array (Option Value)} {vs : Array Value} {tf : Tok} {cdD : ClassData} {ar : Arg}
    (ei : PySem.W.excInitIn K C [.type "ValueError", .type "Exception", .type "BaseException", .type "object"] "ValueError.__new__" = true) (k : PySem.W.keepIn K (.ref C) = true) (b : PySem.W.subIn K (.ref C) (.type "BaseException") = some true) (t : PySem.W.typeIn K (.ref C) = some (.type "type"))
    (hf1 : PySem.W.findIn K (.ref C) "__init__" = some (some (.ref f))) (hf2 : PySem.W.typeIn K (.ref f) = some (.type "function"))
    (lk : K.lookup f = some ⟨oc, od, .func (PySem.W.ksFn "__init__" qual (defArgs st) (defBody st) (defScope st) .none kV doc pm an (.ref cda) ct cc), osl⟩) (hcd : PySem.W.codeIn K (.ref cda) qual = true)
    (hst : defBody st = supBody a1 a2 fld c1 c2 j1 j2 p0 p1 p2 p3 p4 p5 p6 p7 p8 p9 p10 p11 p12 p13) (hev : SupLine a2 c1 c2 j1 j2 p0 p1 p2 p3 p4 p5 p6 p7 p8)
    (hbind : ∀ (s : Shared) (u v : Value), BindsTo s (PySem.W.ksFn "__init__" qual (defArgs st) (supBody a1 a2 fld c1 c2 j1 j2 p0 p1 p2 p3 p4 p5 p6 p7 p8 p9 p10 p11 p12 p13) (defScope st) .none kV doc pm an (.ref cda) ct cc) ⟨[u, v], []⟩ [(a1, u), (a2, v)])
    (hcode : K.lookup cda = some ⟨ccl, cdd, .fields vs, ccs⟩) (hvs : vs[2]? = some (.str file tf)) (hfile : ((P.main.file : Str) == file) = true) (htop : (P.main.scope.names.lookup ("super" : Str)).isSome = false)
    (hcell : K.lookup cc = some ⟨cl, cld, .cell (some (.ref C)), csl⟩) (hD : PySem.W.clsIn K C = some cdD) (hsub : PySem.W.mroIn K C (.ref C) = some true)
    (hpar : ((defArgs st).posonlyargs ++ (defArgs st).args).head? = some ar) (har : ar.arg = a1) (hne : (a1 == a2) = false)
    (hks : (defScope st).names.lookup ("super" : Str) = some .globalImplicit) (hkc : (defScope st).names.lookup ("__class__" : Str) = some .free) (h1 : (defScope st).names.lookup a1 = some .local) (h2 : (defScope st).names.lookup a2 = some .local) (hcells : ∀ y ∈ (defScope st).names, y.2 ≠ .cell) (hco : (defScope st).isCoroutine = false) (hgen : (defScope st).isGenerator = false) (hk : (defScope st).kind = .function)
    (hd1 : (a1 == ("__debug__" : Str)) = false) (hd2 : (a2 == ("__debug__" : Str)) = false)
    (htp : PySem.W.nsIn K cStatics "thirdparty.any" = some none) (hmi : PySem.W.ks_superIn K C C "__init__" = some (some (.builtin "ValueError.__init__"))) (hB : PySem.W.subIn K (.ref C) (.type "ValueError") = some true)
    (hsa : PySem.W.findIn K (.ref C) "__setattr__" = some (some (.builtin "object.__setattr__"))) (hmr : PySem.HandSPX.refsVE cdD.mro = true) (hdi : cdD.hasDict = true) (hno : PySem.W.findIn K (.ref C) fld = some none) (hms : mg "super" = none) : SupD P w K mg C fld c1 c2 := by
  refine ⟨ei, k, b, t, f, hf1, hf2, fun A hp g dr tk os R x t0 i ti mb KX hnl hgl hbl hmb hroom hx hxK hi hl hR => ?_⟩
  rw [hst] at lk
  exact sup_init hev KX hnl hgl hms hbl hmb hroom lk hcd hbind hcode hvs hfile htop hcell hD hsub hpar har hne hks hkc h1 h2 hcells hco hgen hk hd1 hd2 htp hmi hB ei hsa hmr hdi hno hx hxK hi hl hR
end EE
set_option Elab.async false
set_option linter.all false
set_option maxRecDepth 100000
set_option maxHeartbeats 1000000
namespace EE
open PySem PySem.Spec PyProof.Rows L2
section
variable {X : Cx}
theorem ps_setDcG {o0 : HO} (ho0 : o0 = .dK [] ∨ o0 = .dT []) (hu : X.A.units + 1 < cLine) {i : Nat} {y : Str} {py : Pos} {kx vx tg iter : Expr} {ifs : List Expr} {scope : Scope} {own : List (Str × Nat)} {pos spos : Pos} {wi : TI} {g : TG} {tt : TT} {tk tv : TE} (hc : X.calm = true) (hN : X.N.Nodup)
    (hy : X.N[i]? = some y) (hyl : X.env.scope.names.lookup y = some .local) (hsw : swapsWith (.DictComp kx vx [⟨tg, iter, ifs, 0⟩] scope pos) (some (.Name y py)) spos.line X.env = pure true) (hi : PI X tg iter wi) (ok : BlkOk X.N X.env.scope scope own)
    (hg : InBlk X scope fun Y => PG Y tg g) (ht : InBlk X scope fun Y => PTs Y ifs tt) (hk : InBlk X scope fun Y => PE Y kx tk) (hv : InBlk X scope fun Y => PE Y vx tv) (hs : ∀ x, foldedSetIterable iter X.env x = pure x := by intro _; rfl) :
    PS X (.Assign [.Name y py] (.DictComp kx vx [⟨tg, iter, ifs, 0⟩] scope pos) spos) (tAsg (tDcG o0 wi g tt tk tv (own.map (·.2))) (gName i)) := by
  refine ⟨fun pins s σ H D I h => ?_⟩
  rw [exec_Assign_Name_used _ _ _ _ hsw]
  refine wpAny_bind (wpAny_standAt (wpAny_bind ?_))
  show wpAny _ X.A (do let _ ← comprehension (.DictComp kx vx [⟨tg, iter, ifs, 0⟩] scope pos) scope X.env (firstIterPos [⟨tg, iter, ifs, 0⟩] pos) newDict false (eval iter X.env) (some (assign (.Name y py) X.env))) _ _ s
  have h : tDcG o0 wi g tt tk tv (own.map (·.2)) σ H (fun x H1 => gName i x σ H1 D.nx) := h
  refine wpAny_bind (thn (dict_comp_any (Qf := fun _ s' => SP X pins D .next s') ho0 hu hc hN I hi ok hg ht hk hv hs h fun L C s' m H' J q hn f => ?_) fun _ s' hq => wpAny_pure (wpAny_pure hq))
  show wpAny _ _ (assign (.Name y py) X.env (.ref L)) _ _ _
  refine wpAny_assign_Name (store_ok2 (v := V.ref L) J hN hy (.inl hyl) rfl (fun s2 J2 ⟨a, sb, ha⟩ => ?_) (.inr hyl))
  obtain ⟨f0, f1, f2, f3, f4, f5⟩ := f
  have apart : C ≠ a := by
    rcases ha with z | z
    · rw [z]; exact f1
    · exact fun e => f4 y a z e.symm
  refine ⟨m, hn.sameBut sb apart, fun h3 sb3 => ?_⟩
  exact ⟨_, H', J2.turned (t' := s2.toks) (fun b o hb e => (sb3.2 b hb).trans e) f0 f1 f3 f4 f5, q⟩
theorem swD_true {kx vx : Expr} {gs : List Comprehension} {scope : Scope} {pos py : Pos} {y : Str} {l : Nat} {env : Env} (hk : env.scope.kind = .function) (hy : env.scope.names.lookup y = some .local) (hl : (py.line == pos.line) = true)
    (ha : (scope.names.any fun (n, k) => n == y && (k == .local || k == .cell)) = false) : swapsWith (.DictComp kx vx gs scope pos) (some (.Name y py)) l env = pure true := by
  have kd : env.kindOf y = some .local := hy
  have bk : env.blockKind = .function := by unfold Env.blockKind; rw [hk]; rfl
  unfold swapsWith
  simp only [bk, kd, ha, Expr.pos, hl]
  rfl
end
section
variable {X : Cx} {ct : Nat → Addr × List Str} {E : XK} {kx vx tg iter c : Expr} {scope : Scope} {pos py spos : Pos} {y : Str} {di : DI} {dg : DG} {dt : DT} {dk de : DE}
theorem xs_setDc (j : Nat) (kd : Bool) (own : List (Str × Nat)) {g : TG} (hu : X.A.units + 1 < cLine) (hc : X.calm = true) (hN : X.N.Nodup) (hi : PId X ct E tg iter di) (hk : InBlk X scope fun Y => PEd Y ct E kx dk) (hv : InBlk X scope fun Y => PEd Y ct E vx de)
    (hg : InBlk X scope fun Y => PG Y tg g) (hg2 : SndG ⟨X.K, ct⟩ E g dg) (ho : OnlyIn g (own.map (·.2))) (hsw : swapsWith (.DictComp kx vx [⟨tg, iter, [], 0⟩] scope pos) (some (.Name y py)) spos.line X.env = pure true)
    (ok : blkC X.N X.env.scope scope own = true := by kernel_rfl) (hs : ∀ x, foldedSetIterable iter X.env x = pure x := by intro _; rfl) (hy : X.N[j]? = some y := by rfl) (hyl : X.env.scope.names.lookup y = some .local := by rfl) :
    PSd X ct E (.Assign [.Name y py] (.DictComp kx vx [⟨tg, iter, [], 0⟩] scope pos) spos) (dAsg (dDc kd di dg dYes dk de (own.map (·.2))) (dName j)) := by
  obtain ⟨wi, i1, i2⟩ := hi
  exact ⟨_, ps_setDcG (o0_ok kd) hu hc hN hy hyl hsw i1 (blkOk_by ok) hg (fun _ _ _ _ _ => pts_nil) (fun s H C cl fp => (hk s H C cl fp).can) (fun s H C cl fp => (hv s H C cl fp).can) hs, snd_asg (snd_dc i2 hg2 ho snd_yes snd_tE snd_tE) snd_gname⟩
theorem xs_setDci (j : Nat) (kd : Bool) (own : List (Str × Nat)) {g : TG} (hu : X.A.units + 1 < cLine) (hc : X.calm = true) (hN : X.N.Nodup) (hi : PId X ct E tg iter di) (ht : InBlk X scope fun Y => PTd Y ct E c dt) (hk : InBlk X scope fun Y => PEd Y ct E kx dk) (hv : InBlk X scope fun Y => PEd Y ct E vx de)
    (hg : InBlk X scope fun Y => PG Y tg g) (hg2 : SndG ⟨X.K, ct⟩ E g dg) (ho : OnlyIn g (own.map (·.2))) (hsw : swapsWith (.DictComp kx vx [⟨tg, iter, [c], 0⟩] scope pos) (some (.Name y py)) spos.line X.env = pure true)
    (ok : blkC X.N X.env.scope scope own = true := by kernel_rfl) (hs : ∀ x, foldedSetIterable iter X.env x = pure x := by intro _; rfl) (hy : X.N[j]? = some y := by rfl) (hyl : X.env.scope.names.lookup y = some .local := by rfl) :
    PSd X ct E (.Assign [.Name y py] (.DictComp kx vx [⟨tg, iter, [c], 0⟩] scope pos) spos) (dAsg (dDc kd di dg dt dk de (own.map (·.2))) (dName j)) := by
  obtain ⟨wi, i1, i2⟩ := hi
  exact ⟨_, ps_setDcG (o0_ok kd) hu hc hN hy hyl hsw i1 (blkOk_by ok) hg (fun s H C cl fp => pts_one (ht s H C cl fp).can) (fun s H C cl fp => (hk s H C cl fp).can) (fun s H C cl fp => (hv s H C cl fp).can) hs, snd_asg (snd_dc i2 hg2 ho snd_tT snd_tE snd_tE) snd_gname⟩
theorem xe_allInQ {q : Str} {c P : Addr} {iter : Expr} {x dn : Str} {px gpos p1 p2 p3 p pos : Pos} {scope : Scope} {d : DE} {k iD : Nat}
    (hr : Room k X.A) (hg : Gl X "all") (hm : X.mg "all" = none) (TB : LamX.TabB X.base X.mg c P) (hcode : X.env.code = .ref c) (hq : X.env.qual = q) (hmT : (P, q ++ "<genexpr>") ∈ tabOf ct) (hu : ∀ p ∈ tabOf ct, p.1 = P → p.2 = q ++ "<genexpr>")
    (S : AllSc X.env.scope scope x dn) (hN : X.N[iD]? = some dn) (hi : PEd X ct E iter d) (hs : ∀ v, genFold iter X.env v = pure v)
    (he : starEach [.GeneratorExp (.Compare (.Name x p1) [.In] [.Name dn p2] p3) [⟨.Name x px, iter, [], 0⟩] scope gpos] X.env = (false, eval (.GeneratorExp (.Compare (.Name x p1) [.In] [.Name dn p2] p3) [⟨.Name x px, iter, [], 0⟩] scope gpos) X.env) :: starEach [] X.env := by rfl)
    (hb : bootBuiltins "all" = some (.builtin "all") := by rfl) (hdx : (x == ("__debug__" : Str)) = false := by decide) (hdd : (dn == ("__debug__" : Str)) = false := by decide) (hdc : (dn == ("__classdict__" : Str)) = false := by decide) :
    PEd X ct E (.Call (.Name "all" p) [.GeneratorExp (.Compare (.Name x p1) [.In] [.Name dn p2] p3) [⟨.Name x px, iter, [], 0⟩] scope gpos] [] pos) (dAllIn iD d) := by
  subst hq
  exact xe_allIn hr hg hm TB hcode hmT hu S hN hi hs he hb hdx hdd hdc
end
theorem hu64s {k : Nat} {A : Around} {m : Option Value} (hr : Room k A) : (A.mark m).units + 64 < cLine := by
  have := hr.un
  show A.units + 64 < _
  omega
theorem xe_wordQ {X : Cx} {ct : Nat → Addr × List Str} {E : XK} {q : Str} {x a e n : Str} {st : Stmt} {c P news : Addr} {k : Nat} {Ng : List Str} {b0 : Stmt} {suite : List Stmt} {p1 p2 p3 p4 p7 p8 : Pos}
    {params : Arguments} {body : Expr} {scope : Scope} {p lpos pos : Pos} {raised : Nat → Prop} {dS : Nat → Addr → Option Addr → DS} {rs : Nat → List EV → EH → Option (EV × EH)} {d : DE}
    (T : Tx X.K X.mg x st [a]) (hst : defBody st = [.Try [.Return (some (.Call (.Name a p1) [] [] p2)) p3] [.ExceptHandler (some (.Name e p4)) (some n) (b0 :: suite) p7] [] [] p8]) (hg : Gl X x)
    (Sg : FnScope Ng [a] (defScope st)) (hNg : Ng[0]? = some a) (hva : Vis (defScope st) a)
    (hge : (defScope st).names.lookup e = some .globalImplicit) (hme : X.mg e = some (.ref news)) (hde : (e == ("__debug__" : Str)) = false) (h0 : ∀ f : Addr, (L2.start Ng [V.ref f])[0]? = some (some (V.ref f))) (hn : Ng[1]? = some n) (hln : (defScope st).names.lookup n = some .local) (h5 : Ng.length = 5)
    (hex : ∀ c, raised c → PySem.W.exmOne X.K (.ref (ct c).1) (.ref news) = some true)
    (hS : ∀ (g : Addr) (cdv : Value) (s : Shared) (H : Hp), SuiteD ((cxOf C8.CX0 X.prog X.w X.K X.mg X.base Ng x (defScope st) g cdv X.A X.stack s H C8.E0).nox) ct raised b0 suite dS)
    (TB : LamX.TabB X.base X.mg c P) (hcode : X.env.code = .ref c) (hq : X.env.qual = q) (hmT : (P, q ++ "<lambda>") ∈ tabOf ct) (hu : ∀ p ∈ tabOf ct, p.1 = P → p.2 = q ++ "<lambda>") (hr : Room (k + 2) X.A) (L : LamX.LamS X.env.scope scope) (hdef : defaultsOf params X.env = ([], []))
    (hbind : ∀ (q : Str) (cl : List (Str × Addr)) (pm cv ctv : Value), bindArgs (PySem.W.kla_fn "<lambda>" q params body scope cl pm cv ctv) ⟨[], []⟩ = pure [])
    (hbody : ∀ (A : Around) (outer : List Env) (s : Shared) (H : Hp) (E : XK) (f c' : Addr), Room k (A.deeper (LamX.lamEnv X scope s.heap.objs.size f c')) → TkE (LamX.lamCx X A outer s H E scope f c') E → PEd (LamX.lamCx X A outer s H E scope f c') ct E body d)
    (hrs : ∀ (c : Nat) (a : Addr) (dd : Option Addr) (fs : List EV) (h1 : EH) (v : EV) (h2 : EH), rs c fs h1 = some (v, h2) → dd.isSome = !fs.isEmpty → raised c ∧ dS c a dd [none, some (.exc a dd (ct c).2 fs), none, none, none] h1 = .ok (.rt v) h2)
    (hdb : (x == ("__debug__" : Str)) = false := by decide) (hd : (a == ("__debug__" : Str)) = false := by decide) (hcd : (a == ("__classdict__" : Str)) = false := by decide) :
    PEd X ct E (.Call (.Name x p) [.Lambda params body scope lpos] [] pos) (dWord rs d) := by
  subst hq
  exact xe_wordT T hst hg Sg hNg hva hge hme hde h0 hn hln h5 hex hS TB hcode hmT hu hr L hdef hbind hbody hrs hdb hd hcd
end EE
set_option Elab.async false
set_option linter.all false
set_option maxRecDepth 100000
set_option maxHeartbeats 1000000
namespace PySem
open Sem (wp)
section
variable {prog : Program} {w : World} {K : Type} [DecidableEq K] {knd : HeapKind prog w K} {A : Around} {E : Value → Shared → Prop} {s : Shared}
theorem truthy_dictH {d : Addr} {kvs : List (K × Addr × Value)} {Q : Bool → Shared → Prop} (hd : (d == sysModules) = false) (hm : s.heap.DictOfH knd d kvs) (hfit : (kvs.length : Int) < 2 ^ 63)
    (h : Q (!kvs.isEmpty) { s with toks := s.toks + 1 + 1 }) : wpAny (model prog w) A (truthy (.ref d)) Q E s := by
  have hne : ((kvs.length : Int) != 0) = !kvs.isEmpty := by cases kvs <;> simp <;> omega
  have key : wpAny (model prog w) A (runValue (.builtin "len" ⟨[.ref d], []⟩)) (fun r s' => r = .int kvs.length (s.toks + 1) ∧ Q (!kvs.isEmpty) s') E s := by
    refine wpAny_runValue (codeAny_builtin entry_len ?_)
    rw [Around.under_plainId plain_len _]
    exact wpAny_mono (wpAny_len_body_dictH (Q := fun r s' => r = .int kvs.length (s.toks + 1) ∧ Q (!kvs.isEmpty) s') hd hm hfit ⟨rfl, h⟩)
      (fun fin s' h' => by obtain ⟨r, rfl, hq⟩ := h'; exact hq) fun _ _ q => q
  unfold truthy
  first
    | refine wpAny_bind (wpAny_callSpecial?_none (name := Str.ofString "__bool__") hm.typeIs noBool_dict ?_)
    | refine wpAny_bind (wpAny_pure (wpAny_bind (wpAny_callSpecial?_none (name := Str.ofString "__bool__") hm.typeIs noBool_dict ?_)))
  first
    | refine wpAny_bind (wpAny_specialOf (name := Str.ofString "__len__") hm.typeIs F.slot_dict_len.lookup ?_)
    | refine wpAny_bind (wpAny_pure (wpAny_bind (wpAny_specialOf (name := Str.ofString "__len__") hm.typeIs F.slot_dict_len.lookup ?_)))
  first
    | exact wpAny_bind (wpAny_mono key (fun r s' h' => by obtain ⟨rfl, hq⟩ := h'; exact wpAny_pure (hne ▸ hq)) fun _ _ q => q)
    | exact wpAny_bind (wpAny_pure (wpAny_bind (wpAny_mono key (fun r s' h' => by obtain ⟨rfl, hq⟩ := h'; exact wpAny_pure (hne ▸ hq)) fun _ _ q => q)))
end
end PySem
namespace EE
open PySem PySem.Spec PyProof.Rows L2
section
variable {X : Cx} {ct : Nat → Addr × List Str} {E : XK} {a b : Expr} {d da db : DE} {pos p1 p2 : Pos}
def dTruT (a : DE) : DT := fun es h => (a es h).bind fun x h1 => match x with
  | .ref n => match mdicAt h1 n with
    | some (true, kvs) => .ok (!kvs.isEmpty) h1
    | _ => .no
  | _ => .no
theorem xt_truT (h : PEd X ct E a d) (he : ∀ whole, isTrue a X.env whole = (do let v ← whole; standAt a.pos; holding [v] (truthy v)) := by intro _; rfl) : PTd X ct E a (dTruT d) := by
  obtain ⟨t, h1, h2⟩ := h
  refine ⟨fun σ H Q => t σ H fun x H' => ∃ (p : Addr) (kvs : List (List Key × V)), x = .ref p ∧ H' p = some (.dT kvs) ∧ Q (!kvs.isEmpty) H', ⟨fun pins s σ H Q I hh => ?_⟩, fun ρ σ H es eh Q rel hw => ?_⟩
  · refine isTrue_plain (thn (h1.run pins s σ H _ I hh) fun v s1 ⟨x, H1, I1, r1, q1⟩ => ?_) (he _)
    obtain ⟨p, kvs, rfl, hp, q⟩ := q1
    obtain rfl : v = .ref p := r1
    obtain ⟨z, hd, ys, rel, dd⟩ := dt_of I1.hok hp
    have hl : kvs.length = ys.length := Paired.length rel
    refine truthy_dictH hd dd (by rw [← hl]; rw [sizeLine_eq] at z; omega) ?_
    have e : ys.isEmpty = kvs.isEmpty := by cases ys <;> cases kvs <;> simp_all
    rw [e]
    exact ⟨H1, I1.tok _, q⟩
  · refine h2.bind rel hw fun ρ1 H1 x eh1 u e1 rel1 v1 h3 => ?_
    split at h3
    · rename_i n
      split at h3
      · rename_i kvs e2
        obtain ⟨p, u2, g1, g2, g3, _⟩ := mdic_of rel1.hr e2
        obtain ⟨p', q1, rfl⟩ := vr_ref.mp v1
        rw [g1] at q1; cases q1
        obtain ⟨l, rfl, hk⟩ := g3
        refine ⟨p, l, rfl, g2, h3 ρ1 H1 _ (Ext.refl _ _ _) rel1.hr ?_⟩
        have hn := hk.len
        show (!kvs.isEmpty) = !l.isEmpty
        cases kvs <;> cases l <;> simp_all
      · exact h3.elim
    · exact h3.elim
def fIsB (neg : Bool) : D2 := fun x y h => match x, y with
  | .bl b, .bl c => .ok (.bl (if neg then b != c else b == c)) h
  | _, _ => .no
theorem o_isB : Opd X ct E (compareOp .Is) (fIsB false) := ⟨fun x y H Q => ∃ b c, x = .bl b ∧ y = .bl c ∧ Q (.bl (b == c)) H, fun pins s σ H x y v u Q I rx ry h => by
  obtain ⟨b, c, rfl, rfl, q⟩ := h
  cases rx
  cases ry
  exact is_bool (fin_bl I q rfl), fun ρ H eh x y a b Q hr hx hy h => by
  unfold fIsB at h
  split at h
  · exact ⟨_, _, vr_bl.mp hx, vr_bl.mp hy, h ρ H _ (Ext.refl _ _ _) hr (vr_bl.mpr rfl)⟩
  · exact h.elim⟩
theorem o_notB : Opd X ct E (compareOp .IsNot) (fIsB true) := ⟨fun x y H Q => ∃ b c, x = .bl b ∧ y = .bl c ∧ Q (.bl (b != c)) H, fun pins s σ H x y v u Q I rx ry h => by
  obtain ⟨b, c, rfl, rfl, q⟩ := h
  cases rx
  cases ry
  exact isnot_bool (fin_bl I q rfl), fun ρ H eh x y a b Q hr hx hy h => by
  unfold fIsB at h
  split at h
  · exact ⟨_, _, vr_bl.mp hx, vr_bl.mp hy, h ρ H _ (Ext.refl _ _ _) hr (vr_bl.mpr rfl)⟩
  · exact h.elim⟩
def fInT (neg : Bool) : D2 := fun x y h => match x, y with
  | .int i, .tup ys => match intsE ys with
    | some m => .ok (.bl (neg ^^ decide (i ∈ m))) h
    | none => .no
  | _, _ => .no
theorem o_inT : Opd X ct E (compareOp .In) (fInT false) := ⟨_, op_in_seq, fun ρ H eh x y a b Q hr hx hy h => by
  unfold fInT at h
  split at h
  · rename_i i ys
    split at h
    · rename_i m e
      obtain ⟨dd, us, rfl, k1, k2⟩ := vr_tup.mp hy
      rw [intsE_eq e] at k2
      have eu := VRs.of_ints k2
      subst eu
      rw [vr_int.mp hx]
      refine ⟨dd, _, rfl, .inr (SqT.of k1), rfl, by simp [flatV], ?_⟩
      rw [if_neg (by decide), inV_ints]
      exact h ρ H _ (Ext.refl _ _ _) hr (vr_bl.mpr (by simp))
    · exact h.elim
  · exact h.elim⟩
theorem o_notInT : Opd X ct E (compareOp .NotIn) (fInT true) := ⟨_, op_notIn_seq, fun ρ H eh x y a b Q hr hx hy h => by
  unfold fInT at h
  split at h
  · rename_i i ys
    split at h
    · rename_i m e
      obtain ⟨dd, us, rfl, k1, k2⟩ := vr_tup.mp hy
      rw [intsE_eq e] at k2
      have eu := VRs.of_ints k2
      subst eu
      rw [vr_int.mp hx]
      refine ⟨dd, _, rfl, .inr (SqT.of k1), rfl, by simp [flatV], ?_⟩
      rw [if_pos rfl, inV_ints]
      exact h ρ H _ (Ext.refl _ _ _) hr (vr_bl.mpr (by simp))
    · exact h.elim
  · exact h.elim⟩
def dDisp1 (dk dv : DE) : DE := fun es h => (dk es h).bind fun x h1 => (dv es h1).bind fun y h2 => match dputE true [] x y with
  | some kvs => .ok (.ref h2.length) (h2 ++ [.dic true kvs])
  | none => .no
theorem xe_disp1 {k v : Expr} {dk dv : DE} (hu : X.A.units + 1 < cLine) (hk : PEd X ct E k dk) (hv : PEd X ct E v dv) (hshape : (evalEachOpt [some k] X.env).zip ((evalEach [v] X.env).map fun v => do let x ← v; standAt pos; pure x) = [(eval k X.env, (do let x ← eval v X.env; standAt pos; pure x))].map (fun p : Sem Value × Sem Value => (some p.1, p.2)) := by rfl) : PEd X ct E (.Dict [some k] [v] pos) (dDisp1 dk dv) := by
  obtain ⟨tk, k1, k2⟩ := hk
  obtain ⟨tv, v1, v2⟩ := hv
  refine ⟨fun σ H Q => ∀ p, H p = none → tk σ (upd H p (.dT [])) fun y H1 => tv σ H1 fun z H2 => ∃ H3, DPut H2 p y z H3 ∧ Q (.ref p) H3, ⟨fun pins s σ H Q I q => ?_⟩, fun ρ σ H es eh Q rel hw => fun p hp => ?_⟩
  · have hn := I.hok.fresh (Nat.le_refl s.heap.objs.size)
    have I1 := I.laid (a := s.heap.objs.size) (o := .dT []) (h' := s.heap.push { cls := .type "dict", data := .dict #[] }) (t' := s.toks) (fun _ _ q => Heap.get?_push_of_some _ q) (Nat.le_refl _) (obj_empty (.inr rfl) s.heap I.big)
    rw [arm_eval_Dict, hshape, dictDisplay_pairs _ (by simp) (by simp)]
    refine wpAny_bind (wpAny_standAt (wpAny_bind ?_))
    unfold subDict
    refine wpAny_bind (wpAny_alloc (wpAny_bind (wpAny_holding ?_)))
    rw [if_pos (by simp)]
    refine wpAny_bind (evalPairs_cons (thn (k1.run pins _ σ _ _ I1 (q _ hn)) fun y' s2 ⟨y, H1, I2, r2, q2⟩ => ?_))
    refine wpAny_bind (thn (v1.run pins _ σ _ _ I2 q2) fun z' s3 ⟨z, H2, I3, r3, H3, put, q3⟩ => ?_)
    refine wpAny_bind (wpAny_standAt (wpAny_pure (evalPairs_nil (wpAny_holding ?_))))
    refine wpAny_bind ?_
    rw [List.forIn_cons]
    refine wpAny_bind (wpAny_bind (d_dictSet2 hu I3 put r2 r3 fun s4 I4 => wpAny_pure ?_))
    show wpAny _ _ (forIn [] PUnit.unit _) _ _ _
    rw [List.forIn_nil]
    exact wpAny_pure (wpAny_pure (wpAny_pure (wpAny_pure ⟨.ref s.heap.objs.size, H3, I4, rfl, q3⟩)))
  · have es0 : Ext X.K ρ ρ H (upd H p (.dT [])) := Ext.side _ hp
    have hr0 := rel.hr.side (HO.dT []) hp
    have hnp := rel.hr.fresh hp
    refine k2.bind0 (rel.ext es0 hr0) es0 hw fun ρ1 H1 x eh1 u e1 rel1 w1 h1 => ?_
    refine v2.bind0 rel1 (es0.trans e1) h1 fun ρ2 H2 y eh2 u2 e2 rel2 w2 h2 => ?_
    have e12 := e1.trans e2
    have hD : H2 p = some (.dT []) := e12.rest _ _ upd_same (fun _ z => nomatch z) hnp
    have hn2 : (true, p) ∉ ρ2 := fun hm => by
      rcases e12.new _ hm with z | z
      · exact hnp z
      · obtain ⟨ps, q⟩ := z _ upd_same; cases q
    split at h2
    · rename_i kvs ek
      have ek' : (tkeyOf x).map (fun k => dput tkeyOf [] k x y) = some kvs := ek
      obtain ⟨kk, hk1, hk2⟩ := Option.map_eq_some_iff.mp ek'
      obtain ⟨b, rfl, hb⟩ := tkeyOf_eq hk1 (w1.mono e2)
      have eb : Ext0 X.K ρ2 ρ2 H2 (upd H2 p (.dT (putK [] kk u2))) := ext0_upd2 hD (fun _ z => by cases z) (fun _ _ z => by cases z) ⟨(fun _ z => nomatch z), (fun _ _ z => by unfold LamX.CodeO at z; cases z), (fun _ z => nomatch z)⟩
      have hr2 : HR ⟨X.K, ct⟩ ρ2 (upd H2 p (.dT (putK [] kk u2))) eh2 := rel2.hr.ext eb (fun a ha => upd_ne fun z => hn2 (z ▸ ha)) (tabs_upd rel2.hr.tab fun v hv => by rw [hD] at hv; cases hv; exact pln_dT)
      have et : Ext X.K ρ ρ2 H (upd H2 p (.dT (putK [] kk u2))) := (es0.trans e12).mut hp
      have ep : Ext X.K ρ (ρ2 ++ [(true, p)]) H (upd H2 p (.dT (putK [] kk u2))) := et.push hp
      have e0 : Ext0 X.K ρ2 (ρ2 ++ [(true, p)]) H2 (upd H2 p (.dT (putK [] kk u2))) := ⟨⟨[(true, p)], rfl⟩, eb.tup, eb.frz, eb.xd⟩
      have kr : KR tkeyOf (VR X.K ρ2 H2) kvs (putK [] kk u2) := by
        rw [← hk2]
        exact KR.put hk1 w2 (l := []) rfl
      have hr3 := hr2.push (o := .dic true kvs) hn2 rfl ⟨_, upd_same, _, rfl, kr.mono fun x v => VR.mono0 e0 x v⟩
      exact ⟨_, .inr ⟨[], kk, b, hD, rfl, hb, by rw [sizeLine_eq]; decide, rfl⟩, h2 (ρ2 ++ [(true, p)]) _ _ ep hr3 (vr_ref.mpr ⟨p, last_get rel2.hr.len, rfl⟩)⟩
    · exact h2.elim
end
end EE
set_option Elab.async false
set_option linter.all false
set_option maxRecDepth 100000
set_option maxHeartbeats 1000000
namespace EE
open PySem PySem.Spec PyProof.Rows L2
def dMethX (c : Nat) (fn : DL) (o : DE) (a : DA) : DE := fun es h => (o es h).bind fun x h1 => match x with
  | .ref n => match objAt c h1 n with
    | some _ => (a es h1).bind fun xs h2 => fn (x :: xs) h2
    | none => .no
  | _ => .no
def dMakeX (c nf : Nat) (fn : DL) (a : DA) : DE := fun es h => (a es h).bind fun xs h1 => (fn (.ref h1.length :: xs) (h1 ++ [.obj c (List.replicate nf none)])).bind fun v h2 => match v with
  | .non => .ok (.ref h1.length) h2
  | _ => .no
section
variable {P : Program} {w : World} {K : PySem.W.Frag} {mg : Str → Option Value} {base : Heap} {ct : Nat → Addr × List Str}
def MethDX (P : Program) (w : World) (K : Fg) (mg : Str → Option Value) (base : Heap) (ct : Nat → Addr × List Str) (k c : Nat) (m : Str) (fn : DL) : Prop := ∃ f fd ps, FnOk P w K mg base (L2.CX P w) k f fd ps (spD1 ⟨K, ct⟩ fn) ∧ Meth K (ct c).1 m f ∧ Binds K fd ps []
def InitDX (P : Program) (w : World) (K : Fg) (mg : Str → Option Value) (base : Heap) (ct : Nat → Addr × List Str) (k c : Nat) (fn : DL) : Prop := ∃ f fd ps, FnOk P w K mg base (L2.CX P w) k f fd ps (spD1 ⟨K, ct⟩ fn) ∧ Mk K (ct c).1 f ∧ Binds K fd ps []
theorem methdx_mk {c : Nat} {m qual : Str} {st : Stmt} {N ps : List Str} {k : Nat} {d : DS} (T : TxM K (ct c).1 m qual st ps) (S : FnScope N ps (defScope st))
    (h : ∀ (f : Addr) (cdv : Value) (A : Around) (outer : List Env) (s : Shared) (H : Hp) (E : XK), Room k (A.deeper (envOfC qual (defScope st) s.heap.objs.size f cdv)) → TkE (cxOf (L2.CX P w) P w K mg base N qual (defScope st) f cdv A outer s H E) E →
      PSsd (cxOf (L2.CX P w) P w K mg base N qual (defScope st) f cdv A outer s H E) ct E (defBody st) d) :
    MethDX P w K mg base ct (k + 1) c m (dDef ps.length N.length d) := by
  obtain ⟨f, fd, F, hm, hb⟩ := T
  exact ⟨f, fd, ps, fn_dx F S (h f), hm, hb⟩
theorem initdx_mk {c : Nat} {qual : Str} {st : Stmt} {N ps : List Str} {k : Nat} {d : DS} (T : TxI K (ct c).1 qual st ps) (S : FnScope N ps (defScope st))
    (h : ∀ (f : Addr) (cdv : Value) (A : Around) (outer : List Env) (s : Shared) (H : Hp) (E : XK), Room k (A.deeper (envOfC qual (defScope st) s.heap.objs.size f cdv)) → TkE (cxOf (L2.CX P w) P w K mg base N qual (defScope st) f cdv A outer s H E) E →
      PSsd (cxOf (L2.CX P w) P w K mg base N qual (defScope st) f cdv A outer s H E) ct E (defBody st) d) :
    InitDX P w K mg base ct (k + 1) c (dDef ps.length N.length d) := by
  obtain ⟨f, fd, F, hm, hb⟩ := T
  exact ⟨f, fd, ps, fn_dx F S (h f), hm, hb⟩
theorem MethDX.mono {j k c : Nat} {x : Str} {fn : DL} (F : MethDX P w K mg base ct j c x fn) (h : j ≤ k) : MethDX P w K mg base ct k c x fn := by
  obtain ⟨f, fd, ps, h1, h2⟩ := F
  exact ⟨f, fd, ps, h1.mono h, h2⟩
theorem InitDX.mono {j k c : Nat} {fn : DL} (F : InitDX P w K mg base ct j c fn) (h : j ≤ k) : InitDX P w K mg base ct k c fn := by
  obtain ⟨f, fd, ps, h1, h2⟩ := F
  exact ⟨f, fd, ps, h1.mono h, h2⟩
end
section
variable {X : Cx} {ct : Nat → Addr × List Str} {E : XK} {e o : Expr} {es : List Expr} {pos p apos : Pos} {d : DE} {dr : DA} {m : Str}
theorem snd_methX {c k : Nat} {fn : DL} {to : TE} {ta : TA} (hn : m ∉ (ct c).2) (ho : SndE ⟨X.K, ct⟩ E to d) (ha : SndA ⟨X.K, ct⟩ E ta dr) : SndE ⟨X.K, ct⟩ E (tMeth (ct c).1 m (spD1 ⟨X.K, ct⟩ fn) [] E to ta) (dMethX c fn d dr) := fun ρ σ H es eh Q rel h => by
  refine ho.bind rel h fun ρ1 H1 x eh1 u e1 rel1 v1 h1 => ?_
  split at h1
  · rename_i n
    split at h1
    · rename_i fs e3
      obtain ⟨a, dx, l, g1, g2, g3, g4, g5, g6, g7⟩ := obj_of rel1.hr e3
      have v1' := v1
      obtain ⟨a', q1, rfl⟩ := vr_ref.mp v1
      rw [g1] at q1; cases q1
      refine ⟨a, dx, l, rfl, g3, g7 m hn, ?_⟩
      refine ha.bind rel1 h1 fun ρ2 H2 xs eh2 us e2 rel2 v2 h2 => ?_
      exact ⟨ρ2, .ref n :: xs, eh2, by rw [List.append_nil]; exact vrs_cons.mpr ⟨.ref a, us, rfl, VR.mono e2 _ _ v1', v2⟩, rel2.hr, h2⟩
    · exact h1.elim
  · exact h1.elim
theorem xe_methX (c : Nat) {k : Nat} {fn : DL} (pl : Sem Bool) (hc : Cd X.K (ct c)) (F : MethDX X.prog X.w X.K X.mg X.base ct k c m fn) (hr : Room k X.A) (tk : TkE X E) (hn : m ∉ (ct c).2) (ho : PEd X ct E o d) (ha : PAd X ct E (e :: es) dr)
    (hst : starEach (e :: es) X.env = (false, eval e X.env) :: starEach es X.env := by rfl) (hpl : (backTo pos (starEach es X.env)).any (·.1) = false := by rfl)
    (ht : eval (.Call (.Attribute o m apos) (e :: es) [] pos) X.env = (do
      let ov ← eval o X.env
      standAt apos.atName
      let (f, first) ← holding [ov] (getMethod ov m pl)
      callWith pos f first (backTo pos (starEach (e :: es) X.env)) (backToKw pos (keywordEach [] X.env))) := by rfl) :
    PEd X ct E (.Call (.Attribute o m apos) (e :: es) [] pos) (dMethX c fn d dr) := by
  obtain ⟨f, fd, ps, h1, hm, hb⟩ := F
  obtain ⟨t, a1, a2⟩ := ho
  obtain ⟨u, b1, b2⟩ := ha
  exact ⟨_, pe_meth (pl := pl) a1 hc.cl hm h1 hr hb .nil (passes_call tk fun _ _ _ _ h => h) b1 hst hpl ht, snd_methX (k := k) hn a2 b2⟩
theorem xe_meth0X (c : Nat) {k : Nat} {fn : DL} (pl : Sem Bool) (hc : Cd X.K (ct c)) (F : MethDX X.prog X.w X.K X.mg X.base ct k c m fn) (hr : Room k X.A) (tk : TkE X E) (hn : m ∉ (ct c).2) (ho : PEd X ct E o d)
    (ht : eval (.Call (.Attribute o m apos) [] [] pos) X.env = (do
      let ov ← eval o X.env
      standAt apos.atName
      let (f, first) ← holding [ov] (getMethod ov m pl)
      callWith pos f first (backTo pos (starEach [] X.env)) (backToKw pos (keywordEach [] X.env))) := by rfl) :
    PEd X ct E (.Call (.Attribute o m apos) [] [] pos) (dMethX c fn d dNil) := by
  obtain ⟨f, fd, ps, h1, hm, hb⟩ := F
  obtain ⟨t, a1, a2⟩ := ho
  exact ⟨_, pe_meth0 (pl := pl) a1 hc.cl hm h1 hr hb .nil (passes_call tk fun _ _ _ _ h => h) ht, snd_methX (k := k) hn a2 snd_nil⟩
theorem xe_makeX (c : Nat) {k : Nat} {x : Str} {fn : DL} (F : InitDX X.prog X.w X.K X.mg X.base ct k c fn) (hr : Room (k + 1) X.A) (tk : TkE X E) (hg : Gl X x) (hm : X.mg x = some (.ref (ct c).1)) (ha : PAd X ct E (e :: es) dr)
    (hdb : (x == ("__debug__" : Str)) = false := by decide) (he : starEach (e :: es) X.env = (false, eval e X.env) :: starEach es X.env := by rfl) (hpl : (backTo pos (starEach es X.env)).any (·.1) = false := by rfl) :
    PEd X ct E (.Call (.Name x p) (e :: es) [] pos) (dMakeX c (ct c).2.length fn dr) := by
  obtain ⟨f, fd, ps, h1, hM, hb⟩ := F
  obtain ⟨u, b1, b2⟩ := ha
  refine ⟨_, pe_make hM h1 hr hg hm hb .nil (passes_call tk fun _ _ _ _ h => h) b1 hdb he hpl, fun ρ σ H es eh Q rel h => ?_⟩
  refine b2.bind rel h fun ρ1 H1 xs eh1 us e1 rel1 v1 h1 => ?_
  intro a dx na ndx nex
  have nadx : a ≠ dx := fun z => nex z.symm
  have hr1 := rel1.hr.side (HO.own a) ndx
  have e2 : Ext X.K ρ1 ρ1 H1 (upd H1 dx (.own a)) := Ext.side _ ndx
  have na2 : upd H1 dx (.own a) a = none := by rw [upd_ne nadx]; exact na
  have e3 : Ext X.K ρ1 (ρ1 ++ [(true, a)]) (upd H1 dx (.own a)) (upd (upd H1 dx (.own a)) a (.ins (ct c).1 dx [])) := Ext.alloc _ na2
  have ho : OR ⟨X.K, ct⟩ (ρ1 ++ [(true, a)]) (upd (upd H1 dx (.own a)) a (.ins (ct c).1 dx [])) (.obj c (List.replicate (ct c).2.length none)) a := by
    refine ⟨dx, [], upd_same, by simp, by simp, fun i x hx m hm => ?_, fun m _ => rfl⟩
    rw [List.getElem?_replicate] at hx
    split at hx
    · cases hx; exact True.intro
    · cases hx
  have hr3 := hr1.alloc na2 rfl ho
  have hl := rel1.hr.len
  have hv : VR X.K (ρ1 ++ [(true, a)]) (upd (upd H1 dx (.own a)) a (.ins (ct c).1 dx [])) (.ref eh1.length) (.ref a) := vr_ref.mpr ⟨a, last_get hl, rfl⟩
  refine ⟨ρ1 ++ [(true, a)], .ref eh1.length :: xs, eh1 ++ [.obj c (List.replicate (ct c).2.length none)], ?_, hr3, ?_⟩
  · rw [List.append_nil]
    exact vrs_cons.mpr ⟨.ref a, us, rfl, hv, VRs.mono (e2.trans e3) _ _ v1⟩
  · have h2 := h1.mono (e2.trans e3)
    cases q : fn (.ref eh1.length :: xs) (eh1 ++ [.obj c (List.replicate (ct c).2.length none)]) with
    | no => rw [q] at h2; exact h2
    | er z h' => rw [q] at h2; exact h2
    | ok v h' =>
      rw [q] at h2
      intro ρ4 H4 vv e4 hr4 r4
      simp only [bind_ok] at h2
      split at h2
      · exact ⟨vr_non.mp r4, h2 ρ4 H4 (.ref a) e4 hr4 (VR.mono e4 _ _ hv)⟩
      · exact h2.elim
end
def dJ : List (Option DE) → ES → EH → Res Unit
  | [], _, h => .ok () h
  | none :: ds, es, h => dJ ds es h
  | some d :: ds, es, h => (d es h).bind fun x h1 => match x with
    | .int i => if i.natAbs < 10 ^ 100 then dJ ds es h1 else .no
    | _ => .no
section
variable {X : Cx} {ct : Nat → Addr × List Str} {E : XK}
inductive PJd (X : Cx) (ct : Nat → Addr × List Str) (E : XK) : List Expr → List (Option DE) → Prop where
  | nil : PJd X ct E [] []
  | lit {x : Str} {j : Nat} {pos : Pos} {es : List Expr} {ds : List (Option DE)} (h : x.length ≤ 1000) (r : PJd X ct E es ds) : PJd X ct E (.Constant (.str x) j pos :: es) (none :: ds)
  | fmt {e : Expr} {d : DE} {pos : Pos} {es : List Expr} {ds : List (Option DE)} (h : PEd X ct E e d) (r : PJd X ct E es ds) : PJd X ct E (.FormattedValue e (-1) none pos :: es) (some d :: ds)
theorem log2_small {i : Int} (h : i.natAbs < 10 ^ 100) : i.natAbs.log2 < 1920 := by
  by_cases h0 : i.natAbs = 0
  · rw [h0]
    decide
  · refine (Nat.log2_lt h0).mpr (Nat.lt_of_lt_of_le h ?_)
    decide
theorem pjd_pj {es : List Expr} {ds : List (Option DE)} (h : PJd X ct E es ds) : ∃ ts, PJ X es ts ∧ ∀ (acc : Str) ρ σ H xs eh (Q : Str → Hp → Prop), acc.length + 1000 * ds.length ≤ sizeLine → Rel ⟨X.K, ct⟩ ρ σ H xs eh → wr ⟨X.K, ct⟩ (fun _ _ (_ : Unit) (_ : Unit) => True) ρ H (dJ ds xs eh) (fun _ H' => ∀ out, Q out H') E → tJs ts acc σ H Q := by
  induction h with
  | nil => exact ⟨[], .nil, fun acc ρ σ H xs eh Q _ rel h => h ρ H () (Ext.refl _ _ _) rel.hr trivial acc⟩
  | @lit x j pos es ds hx r ih =>
    obtain ⟨ts, p1, p2⟩ := ih
    obtain ⟨t, a1, a2⟩ := (xe_str (X := X) (ct := ct) (E := E) (x := x) (j := j) (pos := pos))
    refine ⟨t :: ts, .cons a1 p1, fun acc ρ σ H xs eh Q hl rel h => ?_⟩
    refine a2 ρ σ H xs eh _ rel ?_
    intro ρ1 H1 u e1 hr1 v1
    refine ⟨x, vr_str.mp v1, ?_, ?_⟩
    · rw [Str.length_append]
      rw [List.length_cons] at hl
      omega
    · refine p2 _ ρ1 σ H1 xs eh Q ?_ ⟨rel.sl.mono e1, hr1⟩ (wr.mono e1 h)
      rw [Str.length_append]
      rw [List.length_cons] at hl
      omega
  | @fmt e d pos es ds hd r ih =>
    obtain ⟨ts, p1, p2⟩ := ih
    obtain ⟨t, a1, a2⟩ := hd
    refine ⟨_ :: ts, .cons (pe_fmt a1) p1, fun acc ρ σ H xs eh Q hl rel h => ?_⟩
    refine a2.bind rel h fun ρ1 H1 y eh1 u e1 rel1 v1 h1 => ?_
    split at h1
    · rename_i i
      split at h1
      · rename_i hi
        have hs : (Str.ofString (toString i)).length ≤ 1000 := by
          have := int_text_length_le10 (k := 100) (by decide) hi
          rw [PySem.ofString_length]
          omega
        refine .inr ⟨i, vr_int.mp v1, log2_small hi, _, rfl, ?_, ?_⟩
        · rw [Str.length_append]
          rw [List.length_cons] at hl
          omega
        · refine p2 _ ρ1 σ H1 xs eh1 Q ?_ rel1 h1
          rw [Str.length_append]
          rw [List.length_cons] at hl
          omega
      · exact h1.elim
    · exact h1.elim
def dRaiseF (c : Nat) (ds : List (Option DE)) : DS := fun es h => (dJ ds es h).bind fun _ h1 => .er ⟨c, []⟩ h1
variable {v1 v2 : Expr} {rest : List Expr} {ds : List (Option DE)} {p pos p2 p3 p4 : Pos}
theorem xs_raiseF (c : Nat) {x : Str} (T : XcD X.K X.mg (ct c) x) (hc : X.calm = true) (tk : TkE X E) (hg : Gl X x) (hj : PJd X ct E (v1 :: v2 :: rest) ds) (hn : ds.length ≤ 1000 := by decide) (hdb : (x == ("__debug__" : Str)) = false := by decide)
    (hs : starEach [.JoinedStr (v1 :: v2 :: rest) p4] X.env = (false, eval (.JoinedStr (v1 :: v2 :: rest) p4) X.env) :: starEach [] X.env := by rfl) :
    PSd X ct E (.Raise (some (.Call (.Name x p) [.JoinedStr (v1 :: v2 :: rest) p4] [] pos)) none p3) (dRaiseF c ds) := by
  obtain ⟨ts, a1, a2⟩ := pjd_pj hj
  refine ⟨_, ps_raise hc tk (SkE.pmk_own1 PySem.F.excBase_ValueError T.ex T.g T.k (raises_own T.b T.t) hg (pe_joined a1) hs hdb), fun ρ σ H es eh D rel h => ?_⟩
  refine a2 Str.empty ρ σ H es eh _ ?_ rel ?_
  · have : Str.empty.length = 0 := rfl
    rw [this, sizeLine_eq]
    omega
  · unfold dRaiseF at h
    cases q : dJ ds es eh with
    | no => rw [q] at h; exact h
    | er z h' => rw [q] at h; exact h
    | ok _ h' =>
      rw [q] at h
      intro ρ1 H1 _ e1 hr1 _ out
      exact h ρ1 H1 (.ref (ct c).1) none e1 hr1 ⟨rfl, rfl⟩
end
end EE
set_option Elab.async false
set_option linter.all false
set_option maxRecDepth 100000
set_option maxHeartbeats 1000000
namespace EE
open PySem PySem.Spec PyProof.Rows L2
def setAll {α : Type} (es : List (Option α)) : List Nat → List α → List (Option α)
  | n :: ns, x :: xs => setAll (es.set n (some x)) ns xs
  | _, _ => es
inductive CapOk (X : Cx) : List Pattern → List Nat → Prop where
  | nil : CapOk X [] []
  | cons {x : Str} {i : Nat} {p : Pos} {ps : List Pattern} {is : List Nat} (hi : X.N[i]? = some x) (hx : Loc X.env.scope x) (hf : X.fn x = true ∨ X.env.scope.names.lookup x = some .local) (r : CapOk X ps is) : CapOk X (.MatchAs none (some x) p :: ps) (i :: is)
theorem CapOk.length {X : Cx} {ps : List Pattern} {is : List Nat} (h : CapOk X ps is) : ps.length = is.length := by
  induction h with
  | nil => rfl
  | cons _ _ _ _ ih => simp [ih]
section
variable {X : Cx} {pins : List (Addr × Obj)}
theorem caps_run {ps : List Pattern} {is : List Nat} (h : CapOk X ps is) (hN : X.N.Nodup) : ∀ {xs : List V} {us : List Value} {s : Shared} {A : Around} {E : Value → Shared → Prop} {M : Model} {Q : Option (List (Str × Value)) → Shared → Prop}, Vals xs us → ps.length = us.length →
    (∀ bs : List (Str × Value), (∀ (σ : L2.St) (H : Hp) (s1 : Shared) (R : Unit → Shared → Prop), Inv X pins σ H s1 → (∀ s2, Inv X pins (setAll σ is xs) H s2 → R () s2) → wpAny M A (assignInOrder (bs.map fun (n, _) => bindName X.env n) (bs.map (·.2))) R E s1) → Q (some bs) s) → wpAny M A (matchEach ps X.env us) Q E s := by
  induction h with
  | nil =>
    intro xs us s A E M Q r hl k
    cases us with
    | nil =>
      cases r
      exact wpAny_matchEach_nil (k [] fun σ H s1 R I q => wpAny_assignInOrder_none (q s1 I))
    | cons u us => simp at hl
  | @cons x i p ps is hi hx hf r0 ih =>
    intro xs us s A E M Q r hl k
    cases r with
    | nil => simp at hl
    | @cons v u vs us rv rr =>
      refine wpAny_matchEach_cons (wpAny_matchPattern_Capture ?_) rfl
      refine ih rr (by simpa using hl) fun bs hb => ?_
      refine k ((x, u) :: bs) fun σ H s1 R I q => ?_
      refine wpAny_assignInOrder_more (wpAny_bindName (store_ok I hN hi hx rv (fun s2 I2 => ?_) hf))
      exact hb _ H s2 R I2 q
def tCs (y : Str) (xs : List V) : List (Option (Str × List Nat) × TS) → TS
  | [] => fun D σ H => D.nx σ H
  | (none, t) :: _ => t
  | (some (z, is), t) :: r => fun D σ H => if xs.length = is.length ∧ y = z then t D (setAll σ is xs) H else tCs y xs r D σ H
def tMatch (K : Fg) (te : TE) (cs : List (Option (Str × List Nat) × TS)) : TS := fun D σ H => te σ H fun v H1 => ∃ a y xs, v = .ref a ∧ SqT K H1 a (.str y :: xs) ∧ tCs y xs cs D σ H1
inductive PMc (X : Cx) : List MatchCase → List (Option (Str × List Nat) × TS) → Prop where
  | nil : PMc X [] []
  | wild {p : Pos} {b : List Stmt} {t : TS} {rest : List MatchCase} {r : List (Option (Str × List Nat) × TS)} (h : PSs X b t) : PMc X (⟨.MatchAs none none p, none, b⟩ :: rest) ((none, t) :: r)
  | cons {z : Str} {j : Nat} {p p1 p2 : Pos} {ps : List Pattern} {is : List Nat} {b : List Stmt} {t : TS} {rest : List MatchCase} {r : List (Option (Str × List Nat) × TS)} (hc : CapOk X ps is) (h : PSs X b t) (hr : PMc X rest r) :
    PMc X (⟨.MatchSequence (.MatchValue (.Constant (.str z) j p1) p2 :: ps) p, none, b⟩ :: rest) ((some (z, is), t) :: r)
theorem caps_star {ps : List Pattern} {is : List Nat} (h : CapOk X ps is) : ps.findIdx? (·.isStar) = none := by
  induction h with
  | nil => rfl
  | @cons x i p ps is _ _ _ _ ih =>
    rw [List.findIdx?_cons]
    have e : (Pattern.MatchAs none (some x) p).isStar = false := rfl
    rw [e]
    simp [ih]
theorem cs_run {cs : List MatchCase} {ts : List (Option (Str × List Nat) × TS)} (h : PMc X cs ts) (hN : X.N.Nodup) (hc : X.calm = true) : ∀ {σ : L2.St} {H : Hp} {s : Shared} {D : Ends} {a : Addr} {y : Str} {xs : List V} {first : Bool}, Inv X pins σ H s → SqT X.K H a (.str y :: xs) → tCs y xs ts D σ H →
    wpAny (model X.prog X.w) X.A (matchCases cs X.env (.ref a) first) (SP X pins D) X.xe s := by
  induction h with
  | nil =>
    intro σ H s D a y xs first I hq h
    exact wpAny_matchCases_nil ⟨σ, H, I, h⟩
  | wild hb =>
    intro σ H s D a y xs first I hq h
    refine wpAny_matchCases_cons (wpAny_matchPattern_Capture ?_)
    exact wpAny_assignInOrder_none (hb.run pins s σ H D I h)
  | @cons z j p p1 p2 ps is b t rest r hcap hb hr ih =>
    intro σ H s D a y xs first I hq h
    obtain ⟨its, rv, ht, hz⟩ := I.tuple hq
    have hzz : ((its.toArray.size : Nat) : Int) < 2 ^ 63 := by
      have := rv.length
      rw [sizeLine_eq] at hz
      rw [List.size_toArray, ← this]
      omega
    have hst : (Pattern.MatchValue (.Constant (.str z) j p1) p2 :: ps).findIdx? (·.isStar) = none := by
      rw [List.findIdx?_cons]
      have e : (Pattern.MatchValue (.Constant (.str z) j p1) p2).isStar = false := rfl
      rw [e]
      simp [caps_star hcap]
    have hw : ((Pattern.MatchValue (.Constant (.str z) j p1) p2 :: ps).all fun p => p.isWildcard || (p.isStar && p.names.isEmpty)) = false := by
      rw [List.all_cons]
      have e : ((Pattern.MatchValue (.Constant (.str z) j p1) p2).isWildcard || ((Pattern.MatchValue (.Constant (.str z) j p1) p2).isStar && (Pattern.MatchValue (.Constant (.str z) j p1) p2).names.isEmpty)) = false := rfl
      rw [e]
      rfl
    unfold tCs at h
    refine wpAny_matchCases_cons ?_
    by_cases hn : xs.length = is.length
    · have hsz : its.toArray.size = (Pattern.MatchValue (.Constant (.str z) j p1) p2 :: ps).length := by
        rw [List.size_toArray, ← rv.length, List.length_cons, List.length_cons, hcap.length, hn]
      refine matchSeq_tuple_hit ht hzz hsz ?_ hst hw
      rw [← hsz]
      have I0 := I.tok (s.toks + 1 + 1)
      refine unpackItems_tuple (s := { s with toks := s.toks + 1 + 1 }) (I.ok.hd hc) ht fun h' hx => ?_
      have I1 : Inv X pins σ H { s with heap := h', toks := s.toks + 1 + 1 } := I.kept (t' := s.toks + 1 + 1) fun b o e => hx b o (Nat.ne_of_lt (Heap.lt_size e)) e
      cases rv with
      | @cons v u vs us r0 rr =>
        obtain ⟨tk, rfl⟩ := r0
        refine wpAny_matchEach_cons (wpAny_matchPattern_Value (Calls.Constant_str (eq_str (wpAny_truthy_bool ?_)))) rfl
        by_cases hy : y = z
        · have e : (y == z) = true := by simpa using hy
          rw [e]
          refine caps_run (pins := pins) hcap hN rr (by rw [hcap.length, ← rr.length, hn]) fun bs hbs => ?_
          rw [if_pos ⟨hn, hy⟩] at h
          refine hbs σ H _ _ (I1.tok _) fun s2 I2 => ?_
          exact hb.run pins s2 _ H D I2 h
        · have e : (y == z) = false := by simpa using hy
          rw [e]
          rw [if_neg fun z => hy z.2] at h
          exact ih (I1.tok _) hq h
    · have hsz : its.toArray.size ≠ (Pattern.MatchValue (.Constant (.str z) j p1) p2 :: ps).length := by
        rw [List.size_toArray, ← rv.length, List.length_cons, List.length_cons, hcap.length]
        omega
      refine matchSeq_tuple_miss ht hzz hsz ?_ hst hw
      rw [if_neg fun z => hn z.1] at h
      exact ih (I.tok _) hq h
theorem ps_match {e : Expr} {te : TE} {cs : List MatchCase} {ts : List (Option (Str × List Nat) × TS)} {pos : Pos} (hN : X.N.Nodup) (hc : X.calm = true) (he : PE X e te) (h : PMc X cs ts) : PS X (.Match e cs pos) (tMatch X.K te ts) := by
  refine ⟨fun pins s σ H D I hh => wpAny_Match (thn (he.run pins s σ H _ I hh) fun v s1 ⟨x, H1, I1, r1, q1⟩ => ?_)⟩
  obtain ⟨a, y, xs, rfl, hq, q⟩ := q1
  obtain rfl : v = .ref a := r1
  exact cs_run h hN hc I1 hq q
end
def dCs (y : Str) (xs : List EV) : List (Option (Str × List Nat) × DS) → DS
  | [] => fun es h => .ok (.nx es) h
  | (none, d) :: _ => d
  | (some (z, is), d) :: r => fun es h => if xs.length = is.length ∧ y = z then d (setAll es is xs) h else dCs y xs r es h
def dMatch (e : DE) (cs : List (Option (Str × List Nat) × DS)) : DS := fun es h => (e es h).bind fun x h1 => match x with
  | .tup (.str y :: xs) => dCs y xs cs es h1
  | _ => .no
section
variable {X : Cx} {ct : Nat → Addr × List Str} {E : XK}
theorem SR.setAll {K : Fg} {ρ : Rho} {H : Hp} : ∀ {is : List Nat} {es : ES} {σ : L2.St} {xs : List EV} {vs : List V}, SR K ρ H es σ → VRs K ρ H xs vs → SR K ρ H (EE.setAll es is xs) (EE.setAll σ is vs)
  | [], es, σ, xs, vs, h, hv => by unfold EE.setAll; exact h
  | i :: is, es, σ, xs, vs, h, hv => by
    cases xs with
    | nil =>
      rw [vrs_nil] at hv
      subst hv
      unfold EE.setAll
      exact h
    | cons x xs =>
      obtain ⟨v, r, rfl, h1, h2⟩ := vrs_cons.mp hv
      unfold EE.setAll
      exact SR.setAll (h.set i h1) h2
inductive PMd (X : Cx) (ct : Nat → Addr × List Str) (E : XK) : List MatchCase → List (Option (Str × List Nat) × DS) → Prop where
  | nil : PMd X ct E [] []
  | wild {p : Pos} {b : List Stmt} {d : DS} (h : PSsd X ct E b d) : PMd X ct E [⟨.MatchAs none none p, none, b⟩] [(none, d)]
  | cons {z : Str} {j : Nat} {p p1 p2 : Pos} {ps : List Pattern} {is : List Nat} {b : List Stmt} {d : DS} {rest : List MatchCase} {r : List (Option (Str × List Nat) × DS)} (hc : CapOk X ps is) (h : PSsd X ct E b d) (hr : PMd X ct E rest r) :
    PMd X ct E (⟨.MatchSequence (.MatchValue (.Constant (.str z) j p1) p2 :: ps) p, none, b⟩ :: rest) ((some (z, is), d) :: r)
theorem pmd_pmc {cs : List MatchCase} {ds : List (Option (Str × List Nat) × DS)} (h : PMd X ct E cs ds) : ∃ ts, PMc X cs ts ∧ ∀ y (xs : List EV) (vs : List V) ρ σ H es eh D, Rel ⟨X.K, ct⟩ ρ σ H es eh → VRs X.K ρ H xs vs → wr ⟨X.K, ct⟩ (RF ⟨X.K, ct⟩) ρ H (dCs y xs ds es eh) (qD D) E → tCs y vs ts D σ H := by
  induction h with
  | nil => exact ⟨[], .nil, fun y xs vs ρ σ H es eh D rel hv h => h ρ H (.nx σ) (Ext.refl _ _ _) rel.hr rel.sl⟩
  | wild hb =>
    obtain ⟨t, a1, a2⟩ := hb
    exact ⟨[(none, t)], .wild a1, fun y xs vs ρ σ H es eh D rel hv h => a2 ρ σ H es eh D rel h⟩
  | @cons z j p p1 p2 ps is b d rest r hc hb hr ih =>
    obtain ⟨ts, p1', p2'⟩ := ih
    obtain ⟨t, a1, a2⟩ := hb
    refine ⟨(some (z, is), t) :: ts, .cons hc a1 p1', fun y xs vs ρ σ H es eh D rel hv h => ?_⟩
    unfold tCs
    unfold dCs at h
    rw [← hv.length]
    split at h
    · rename_i hh
      rw [if_pos hh]
      exact a2 ρ _ H _ eh D ⟨rel.sl.setAll hv, rel.hr⟩ h
    · rename_i hh
      rw [if_neg hh]
      exact p2' y xs vs ρ σ H es eh D rel hv h
theorem xs_match {e : Expr} {d : DE} {cs : List MatchCase} {ds : List (Option (Str × List Nat) × DS)} {pos : Pos} (hN : X.N.Nodup) (hc : X.calm = true) (he : PEd X ct E e d) (h : PMd X ct E cs ds) : PSd X ct E (.Match e cs pos) (dMatch d ds) := by
  obtain ⟨ts, a1, a2⟩ := pmd_pmc h
  obtain ⟨t, b1, b2⟩ := he
  refine ⟨_, ps_match hN hc b1 a1, fun ρ σ H es eh D rel h => ?_⟩
  refine b2.bind rel h fun ρ1 H1 x eh1 u e1 rel1 v1 h1 => ?_
  split at h1
  · rename_i y xs
    obtain ⟨a, vs, rfl, g1, g2⟩ := vr_tup.mp v1
    obtain ⟨v, r, rfl, k1, k2⟩ := vrs_cons.mp g2
    rw [vr_str.mp k1] at g1
    exact ⟨a, y, r, rfl, .inl (.inl g1), a2 y xs r ρ1 σ H1 es eh1 D rel1 k2 h1⟩
  · exact h1.elim
end
end EE
set_option Elab.async false
set_option linter.all false
set_option maxRecDepth 100000
set_option maxHeartbeats 1000000
namespace EE
open PySem PySem.Spec PyProof.Rows L2
def dTryC (raised : Nat → Bool) (d : DE) (s : Str) : DS := fun es h => match d es h with
  | .ok v h1 => .ok (.rt v) h1
  | .er z h1 => if raised z.c then .ok (.rt (.str s)) h1 else .no
  | .no => .no
section
variable {X : Cx} {ct : Nat → Addr × List Str} {E : XK}
theorem xs_tryC {Wout : WX} {e : Expr} {d : DE} {raised : Nat → Bool} {x s : Str} {news : Addr} {j : Nat} {np p3 p4 p5 p7 p8 : Pos} (hs : X.stack = X.env :: X.outer) (hf : X.env.frame = some X.env.locals) (hg : Gl X x) (hm : X.mg x = some (.ref news)) (tk : L2.Takes X Wout)
    (hex : ∀ c, raised c = true → PySem.W.exmOne X.K (.ref (ct c).1) (.ref news) = some true)
    (he : ∀ (pn : List (Addr × Obj)) (xe : Value → Shared → Prop) (E' : XK), TkE (X.tr pn xe) E' → PEd (X.tr pn xe) ct E' e d) (hdb : (x == ("__debug__" : Str)) = false := by decide) :
    PSd X ct E (.Try [.Return (some e) p3] [.ExceptHandler (some (.Name x np)) none [.Return (some (.Constant (.str s) j p4)) p5] p7] [] [] p8) (dTryC raised d s) := by
  refine ⟨_, ps_try_only (c := .ref news) (Wout := Wout) (tb := fun W D σ H => ∃ Ech : XK, (∀ cls d σ' H', Ech cls d H' → W cls d σ' H') ∧ tE ⟨X.K, ct⟩ Ech d σ H fun v H1 => D.rt v H1) (ts := fun _ _ _ D σ H => D.rt (.str s) H) hs hf ⟨hg, hdb, .inl hm⟩ tk (fun W pn xe tk' _ => ?_) (fun a oe cls d pn hz hf' => ?_), fun ρ σ H es eh D rel h => ?_⟩
  · refine ⟨fun pins s' σ H' D I h' => ?_⟩
    obtain ⟨Ech, hW, h1⟩ := h'
    have hp := (he pn xe Ech (tk'.imp fun c d σ H hh => hW c d σ H hh)).can
    exact (pss_one (ps_ret (pos := p3) hp)).run pins s' σ H' D I h1
  · exact ⟨fun pins s' σ H' D I h' => (pss_one (ps_ret (pos := p5) (pe_str (x := s) (j := j) (pos := p4)))).run pins s' σ H' D I h'⟩
  · refine ⟨fun cls _ H' => PySem.W.exmOne X.K cls (.ref news) = some true ∧ D.rt (.str s) H', fun cls d σ' H' hh => ⟨true, hh.1, fun _ a _ => hh.2, fun z => nomatch z⟩, ρ, es, eh, rel, ?_⟩
    unfold dTryC at h
    cases q : d es eh with
    | no => rw [q] at h; exact h.elim
    | ok v h' =>
      rw [q] at h
      exact fun ρ1 H1 u e1 hr1 v1 => h ρ1 H1 (.rt u) e1 hr1 v1
    | er z h' =>
      rw [q] at h
      simp only at h
      split at h
      · rename_i hz
        intro ρ1 H1 cl own e1 hr1 xr
        obtain ⟨xc, _⟩ := xr
        refine ⟨by rw [xc]; exact hex _ hz, ?_⟩
        exact h ρ1 H1 (.rt (.str s)) e1 hr1 (show VR X.K ρ1 H1 (.str s) (.str s) from vr_str.mpr rfl)
      · exact h.elim
def dDelL (a b : DE) : DS := fun es h => (a es h).bind fun x h1 => (b es h1).bind fun y h2 => match x, y with
  | .ref n, .int i => match mutAt h2 n with
    | some ys => if 0 ≤ i ∧ i < 2 ^ 62 ∧ i.toNat < ys.length then .ok (.nx es) (h2.set n (.lst (ys.eraseIdx i.toNat))) else .no
    | none => .no
  | _, _ => .no
theorem xs_delL {o i : Expr} {a b : DE} {pos tpos : Pos} (ho : PEd X ct E o a) (hi : PEd X ct E i b) : PSd X ct E (.Delete [.Subscript o i tpos] pos) (dDelL a b) := by
  obtain ⟨t, a1, a2⟩ := ho
  obtain ⟨u, b1, b2⟩ := hi
  refine ⟨_, ps_delL a1 b1, fun ρ σ H es eh D rel h => ?_⟩
  refine a2.bind rel h fun ρ1 H1 x eh1 u1 e1 rel1 v1 h1 => ?_
  refine b2.bind rel1 h1 fun ρ2 H2 y eh2 u2 e2 rel2 v2 h2 => ?_
  split at h2
  · rename_i n i
    split at h2
    · rename_i ys e3
      split at h2
      · rename_i hi
        obtain ⟨a1, vs, g1, g2, g3, g4⟩ := mut_of rel2.hr e3
        obtain ⟨a', q1, rfl⟩ := vr_ref.mp (v1.mono e2)
        rw [g1] at q1; cases q1
        have hl := g3.length
        obtain ⟨e, hr'⟩ := put_lst rel2.hr g4 g2 (g3.erase i.toNat)
        refine ⟨a1, vs, i, i.toNat, rfl, vr_int.mp v2, g2, by omega, by omega, ?_, h2 ρ2 _ (.nx σ) e hr' (rel2.sl.mono e)⟩
        have h0 : ¬ i < 0 := by omega
        have h9 : i < (vs.length : Int) := by omega
        simp [seqIndex?, h0, hi.1, h9]
      · exact h2.elim
    · exact h2.elim
  · exact h2.elim
def dIsC (c : Nat) (a : DE) : DE := fun es h => (a es h).bind fun x h1 => match x with
  | .ref n => match objAt c h1 n with
    | some _ => .ok (.bl true) h1
    | none => .no
  | _ => .no
theorem xe_isC (c : Nat) {x : Str} {e : Expr} {d : DE} {p p2 pos : Pos} (hc : C8.InsC X.K (ct c).1) (hg : Gl X "isinstance") (hm : X.mg "isinstance" = none) (hgc : Gl X x) (hmc : X.mg x = some (.ref (ct c).1)) (he : PEd X ct E e d) (hd2 : (x == ("__debug__" : Str)) = false := by decide)
    (hs : starEach [e, .Name x p2] X.env = (false, eval e X.env) :: starEach [.Name x p2] X.env := by rfl) (hpl : (backTo pos (starEach [.Name x p2] X.env)).any (·.1) = false := by rfl) :
    PEd X ct E (.Call (.Name "isinstance" p) [e, .Name x p2] [] pos) (dIsC c d) := by
  obtain ⟨t, a1, a2⟩ := he
  refine ⟨_, pe_callB (C8.call_isC hc) hg hm (by decide +kernel) (pa_cons a1 (pa_cons (pe_glob (v := .ref (ct c).1) hgc hmc rfl hd2) pa_nil (by rfl)) hs) (he := hs) (hpl := hpl), fun ρ σ H es eh Q rel h => ?_⟩
  refine a2.bind rel h fun ρ1 H1 x eh1 u e1 rel1 v1 h1 => ?_
  split at h1
  · rename_i n
    split at h1
    · rename_i fs e3
      obtain ⟨a, dx, l, g1, g2, g3, g4, g5, g6, g7⟩ := obj_of rel1.hr e3
      obtain ⟨a', q1, rfl⟩ := vr_ref.mp v1
      rw [g1] at q1; cases q1
      exact ⟨a, dx, l, rfl, g3, h1 ρ1 H1 _ (Ext.refl _ _ _) rel1.hr (vr_bl.mpr rfl)⟩
    · exact h1.elim
  · exact h1.elim
def dNoer (d : DE) : DE := fun es h => (d es h).noer
theorem xe_noer {e : Expr} {d : DE} (h : PEd X ct C8.E0 e d) : PEd X ct E e (dNoer d) := by
  obtain ⟨t, a1, a2⟩ := h
  exact ⟨t, a1, fun ρ σ H es eh Q rel h => a2 ρ σ H es eh Q rel (wr_noer h)⟩
theorem tk0 {X : Cx} : TkE X C8.E0 := LamX.takes0
end
end EE
set_option Elab.async false
set_option linter.all false
set_option maxRecDepth 100000
set_option maxHeartbeats 1000000
namespace EE
open PySem PySem.Spec PyProof.Rows L2
mutual
theorem keyN_hash (w w' : World) : ∀ (x : EV) (k : NestedKey), keyN x = some k → k.hash w = k.hash w'
  | .int i, k, h => by
    simp only [keyN, Option.some.injEq] at h
    subst h
    rfl
  | .tup xs, k, h => by
    simp only [keyN, Option.map_eq_some_iff] at h
    obtain ⟨ks, h1, rfl⟩ := h
    simp only [NestedKey.hash]
    rw [keysN_hash w w' xs ks h1]
  | .non, k, h => by simp [keyN] at h
  | .bl _, k, h => by simp [keyN] at h
  | .str _, k, h => by simp [keyN] at h
  | .ref _, k, h => by simp [keyN] at h
  | .ty _, k, h => by simp [keyN] at h
  | .exc _ d _ _, k, h => by cases d <;> simp [keyN] at h
theorem keysN_hash (w w' : World) : ∀ (xs : List EV) (ks : List NestedKey), keysN xs = some ks → NestedKey.hashes w ks = NestedKey.hashes w' ks
  | [], ks, h => by
    simp only [keysN, Option.some.injEq] at h
    subst h
    rfl
  | x :: xs, ks, h => by
    simp only [keysN] at h
    split at h
    · rename_i k r h1 h2
      cases h
      simp only [NestedKey.hashes]
      rw [keyN_hash w w' x _ h1, keysN_hash w w' xs _ h2]
    · cases h
end
mutual
theorem nested_is {P : Program} {w : World} {K : Fg} {ρ : Rho} {H : Hp} {h : Heap} (ok : HOk P w H h) : ∀ (x : EV) (k : NestedKey) (v : V) (u : Value), VR K ρ H x v → keyN x = some k → RelV v u → NestedIs h k u
  | .int i, k, v, u, hv, hk, r => by
    simp only [keyN, Option.some.injEq] at hk
    subst hk
    rw [vr_int.mp hv] at r
    obtain ⟨t, rfl⟩ := r
    exact .int i t
  | .tup xs, k, v, u, hv, hk, r => by
    simp only [keyN, Option.map_eq_some_iff] at hk
    obtain ⟨ks, h1, rfl⟩ := hk
    obtain ⟨a, vs, rfl, g1, g2⟩ := vr_tup.mp hv
    obtain rfl : u = .ref a := r
    obtain ⟨z, its, rv, o, e1, e2, n, e3⟩ := ok a _ g1
    exact .tup e1 e2 e3 (nested_all ok xs ks vs its g2 h1 rv)
  | .non, k, v, u, hv, hk, r => by simp [keyN] at hk
  | .bl _, k, v, u, hv, hk, r => by simp [keyN] at hk
  | .str _, k, v, u, hv, hk, r => by simp [keyN] at hk
  | .ref _, k, v, u, hv, hk, r => by simp [keyN] at hk
  | .ty _, k, v, u, hv, hk, r => by simp [keyN] at hk
  | .exc _ d _ _, k, v, u, hv, hk, r => by cases d <;> simp [keyN] at hk
theorem nested_all {P : Program} {w : World} {K : Fg} {ρ : Rho} {H : Hp} {h : Heap} (ok : HOk P w H h) : ∀ (xs : List EV) (ks : List NestedKey) (vs : List V) (us : List Value), VRs K ρ H xs vs → keysN xs = some ks → Vals vs us → NestedAll h ks us
  | [], ks, vs, us, hv, hk, r => by
    simp only [keysN, Option.some.injEq] at hk
    subst hk
    rw [vrs_nil] at hv
    subst hv
    cases r
    exact .nil
  | x :: xs, ks, vs, us, hv, hk, r => by
    obtain ⟨v, vr, rfl, h1, h2⟩ := vrs_cons.mp hv
    simp only [keysN] at hk
    split at hk
    · rename_i k kr e1 e2
      cases hk
      cases r with
      | cons r0 rr => exact .cons (nested_is ok x k v _ h1 e1 r0) (nested_all ok xs kr vr _ h2 e2 rr)
    · cases hk
end
theorem nd_of {G : Gx} {ρ : Rho} {H : Hp} {eh : EH} {n : Nat} {ks : List (EV × EV)} (hr : HR G ρ H eh) (e : eh[n]? = some (.nd ks)) : ∃ a ys, adr ρ n = some a ∧ ρ[n]? = some (true, a) ∧ H a = some (NdO a ys) ∧ NdR (VR G.K ρ H) ks ys := by
  obtain ⟨a, h1, h2⟩ := hr.obj n _ e
  obtain ⟨ys, h3, h4⟩ := h2
  exact ⟨a, ys, adr_of h1, h1, h3, h4⟩
theorem ndr_is {P : Program} {w : World} {K : Fg} {ρ : Rho} {H : Hp} {h : Heap} (ok : HOk P w H h) : ∀ {ks : List (EV × EV)} {ys : List (NestedKey × Addr × Value)}, NdR (VR K ρ H) ks ys → ∀ y ∈ ys, (nestedKind P w).is h y.1 y.2.1
  | [], ys, r, y, hy => by
    have : ys = [] := r
    subst this
    cases hy
  | k :: ks, ys, r, y, hy => by
    obtain ⟨n, b, v, x, r', rfl, h1, h2, h3, _, _, h4⟩ := r
    rcases List.mem_cons.mp hy with rfl | hy
    · exact ⟨nested_is ok k.1 n (.ref b) (.ref b) h3 h1 rfl, h2⟩
    · exact ndr_is ok h4 y hy
theorem ndr_ent {P P' : Program} {w w' : World} {R : EV → V → Prop} : ∀ {ks : List (EV × EV)} {ys : List (NestedKey × Addr × Value)}, NdR R ks ys → ys.map (entryOfKey (nestedKind P w)) = ys.map (entryOfKey (nestedKind P' w'))
  | [], ys, r => by
    have : ys = [] := r
    subst this
    rfl
  | k :: ks, ys, r => by
    obtain ⟨n, b, v, x, r', rfl, h1, h2, h3, _, _, h4⟩ := r
    rw [List.map_cons, List.map_cons, ndr_ent (P := P) (P' := P') (w := w) (w' := w') h4]
    have : entryOfKey (nestedKind P w) (n, b, v) = entryOfKey (nestedKind P' w') (n, b, v) := by
      show (⟨n.hash w, .ref b, v⟩ : DictEntry) = ⟨n.hash w', .ref b, v⟩
      rw [keyN_hash w w' k.1 n h1]
    rw [this]
theorem nd_dict {P : Program} {w : World} {K : Fg} {ρ : Rho} {H : Hp} {h : Heap} {a : Addr} {ks : List (EV × EV)} {ys : List (NestedKey × Addr × Value)} (ok : HOk P w H h) (hH : H a = some (NdO a ys)) (r : NdR (VR K ρ H) ks ys) :
    (a == sysModules) = false ∧ ys.length ≤ sizeLine ∧ h.DictOfH (nestedKind P w) a ys := by
  obtain ⟨⟨h1, h2, P', w', o, es, ep, h3, h4, h5, h6, h7⟩, _⟩ := ok a _ hH
  exact ⟨h1, h2, o, es, ep, h3, h4, h5, by rw [h6]; exact ndr_ent r, ndr_is ok r, h7⟩
def ndAt (h : EH) (n : Nat) : Option (List (EV × EV)) := match h[n]? with
  | some (.nd ks) => some ks
  | _ => none
def ndVal (ks : List (EV × EV)) (k : NestedKey) : Option EV := (ks.find? fun p => decide (keyN p.1 = some k)).map (·.2)
def ndHas (ks : List (EV × EV)) (k : NestedKey) : Bool := (ndVal ks k).isSome
def nkey (x : EV) : Option NestedKey := match x with
  | .tup xs => match keyN (.tup xs) with
    | some k => if k.depth ≤ 8 then some k else none
    | none => none
  | _ => none
theorem nkey_of {x : EV} {k : NestedKey} (h : nkey x = some k) : keyN x = some k ∧ k.depth ≤ 8 ∧ ∃ xs, x = .tup xs := by
  unfold nkey at h
  split at h
  · rename_i xs
    split at h
    · rename_i k' e
      split at h
      · rename_i hd
        cases h
        exact ⟨e, hd, xs, rfl⟩
      · cases h
    · cases h
  · cases h
def NFR (R : EV → V → Prop) : Option EV → Option Value → Prop
  | none, none => True
  | some x, some v => ∃ w, R x w ∧ RelV w v
  | _, _ => False
theorem ndr_val {R : EV → V → Prop} (k : NestedKey) : ∀ {ks : List (EV × EV)} {ys : List (NestedKey × Addr × Value)}, NdR R ks ys → NFR R (ndVal ks k) ((atKey ys k).map (·.2))
  | [], ys, r => by
    have : ys = [] := r
    subst this
    exact True.intro
  | x :: ks, ys, r => by
    obtain ⟨n, b, v, w, r', rfl, h1, h2, h3, h4, h5, h6⟩ := r
    have ih := ndr_val k h6
    by_cases e : n = k
    · subst e
      have e1 : ndVal (x :: ks) n = some x.2 := by
        unfold ndVal
        rw [List.find?_cons_of_pos (by simp [h1])]
        rfl
      have e2 : (atKey ((n, b, v) :: r') n).map (·.2) = some v := by simp [atKey]
      rw [e1, e2]
      exact ⟨w, h4, h5⟩
    · have e1 : ndVal (x :: ks) k = ndVal ks k := by
        unfold ndVal
        rw [List.find?_cons_of_neg (by simp [h1, e])]
      have e2 : atKey ((n, b, v) :: r') k = atKey r' k := by simp [atKey, e]
      rw [e1, e2]
      exact ih
theorem NFR.isSome {R : EV → V → Prop} : ∀ {x : Option EV} {v : Option Value}, NFR R x v → v.isSome = x.isSome
  | some _, some _, _ => rfl
  | none, none, _ => rfl
  | some _, none, q => q.elim
  | none, some _, q => q.elim
theorem ndr_at {R : EV → V → Prop} (k : NestedKey) {ks : List (EV × EV)} {ys : List (NestedKey × Addr × Value)} (r : NdR R ks ys) : (atKey ys k).isSome = ndHas ks k := by
  have := (ndr_val k r).isSome
  rw [Option.isSome_map] at this
  exact this
def ndPut (ks : List (EV × EV)) (k : NestedKey) (x v : EV) : List (EV × EV) := if ndHas ks k = true then ks.map (fun p => if keyN p.1 = some k then (p.1, v) else p) else ks ++ [(x, v)]
theorem ndr_put {R : EV → V → Prop} {x : EV} {w : V} {v : Value} (k : NestedKey) (hx : R x w) (hv : RelV w v) : ∀ {ks : List (EV × EV)} {ys : List (NestedKey × Addr × Value)}, NdR R ks ys → NdR R (ks.map fun p => if keyN p.1 = some k then (p.1, x) else p) (ys.map (putAt k v))
  | [], ys, r => by
    have : ys = [] := r
    subst this
    rfl
  | y :: ks, ys, r => by
    obtain ⟨n, b, v0, w0, r', rfl, h1, h2, h3, h4, h5, h6⟩ := r
    have ih := ndr_put k hx hv h6
    rw [List.map_cons, List.map_cons]
    by_cases e : n = k
    · subst e
      refine ⟨n, b, v, w, _, by unfold putAt; rw [if_pos rfl], ?_, h2, ?_, ?_, hv, ih⟩
      · rw [if_pos h1]; exact h1
      · rw [if_pos h1]; exact h3
      · rw [if_pos h1]; exact hx
    · refine ⟨n, b, v0, w0, _, by unfold putAt; rw [if_neg e], ?_, h2, ?_, ?_, h5, ih⟩
      · rw [if_neg (by rw [h1]; simpa using e)]; exact h1
      · rw [if_neg (by rw [h1]; simpa using e)]; exact h3
      · rw [if_neg (by rw [h1]; simpa using e)]; exact h4
theorem ndr_snoc {R : EV → V → Prop} {x y : EV} {k : NestedKey} {b : Addr} {w : V} {v : Value} (hk : keyN x = some k) (hd : k.depth ≤ 8) (hb : R x (.ref b)) (hy : R y w) (hv : RelV w v) : ∀ {ks : List (EV × EV)} {ys : List (NestedKey × Addr × Value)}, NdR R ks ys → NdR R (ks ++ [(x, y)]) (ys ++ [(k, b, v)])
  | [], ys, r => by
    have : ys = [] := r
    subst this
    exact ⟨k, b, v, w, [], rfl, hk, hd, hb, hy, hv, rfl⟩
  | z :: ks, ys, r => by
    obtain ⟨n, c, v0, w0, r', rfl, h1, h2, h3, h4, h5, h6⟩ := r
    exact ⟨n, c, v0, w0, _, rfl, h1, h2, h3, h4, h5, ndr_snoc hk hd hb hy hv h6⟩
theorem ndr_len {R : EV → V → Prop} : ∀ {ks : List (EV × EV)} {ys : List (NestedKey × Addr × Value)}, NdR R ks ys → ys.length = ks.length
  | [], ys, r => by
    have : ys = [] := r
    subst this
    rfl
  | y :: ks, ys, r => by
    obtain ⟨n, c, v, w, r', rfl, h1, h2, h3, h4, h5, h6⟩ := r
    rw [List.length_cons, List.length_cons, ndr_len h6]
theorem ndr_stored {R : EV → V → Prop} {x y : EV} {k : NestedKey} {b : Addr} {w : V} {v : Value} (hk : keyN x = some k) (hd : k.depth ≤ 8) (hb : R x (.ref b)) (hy : R y w) (hv : RelV w v) {ks : List (EV × EV)} {ys : List (NestedKey × Addr × Value)} (r : NdR R ks ys) : NdR R (ndPut ks k x y) (storedH ys k b v) := by
  unfold ndPut storedH
  rw [ndr_at k r]
  split
  · exact ndr_put k hy hv r
  · exact ndr_snoc hk hd hb hy hv r
theorem nd_ok {P : Program} {w : World} {H : Hp} {h : Heap} {a : Addr} {ys : List (NestedKey × Addr × Value)} (h1 : (a == sysModules) = false) (h2 : ys.length ≤ sizeLine) (dd : h.DictOfH (nestedKind P w) a ys) : ObjOk P w H h a (NdO a ys) := by
  obtain ⟨o, es, ep, h3, h4, h5, h6, _, h7⟩ := dd
  refine ⟨⟨h1, h2, P, w, o, es, ep, h3, h4, h5, h6, h7⟩, ⟨o, h3⟩, fun g g' q k => ?_⟩
  obtain ⟨z1, z2, P', w', o', es', ep', q1, q2⟩ := q
  exact ⟨z1, z2, P', w', o', es', ep', k _ q1, q2⟩
def fNdIn (neg : Bool) : D2 := fun x y h => match y with
  | .ref n => match ndAt h n, nkey x with
    | some ks, some k => .ok (.bl (neg ^^ ndHas ks k)) h
    | _, _ => .no
  | _ => .no
def sNd : DSet := fun o i x h => match o with
  | .ref n => match ndAt h n, nkey i with
    | some ks, some k => if ks.length < 100000 then .ok () (h.set n (.nd (ndPut ks k i x))) else .no
    | _, _ => .no
  | _ => .no
def mGetN : EV → DL := fun x xs h => match x, xs with
  | .ref n, [y] => match ndAt h n, nkey y with
    | some ks, some k => .ok ((ndVal ks k).getD .non) h
    | _, _ => .no
  | _, _ => .no
def mGetD : EV → DL := fun x xs h => match x, xs with
  | .ref n, [y, z] => match dicAt h n with
    | some (t, kvs) => match dgetE t kvs y with
      | some o => .ok (o.getD z) h
      | none => .no
    | none => .no
  | _, _ => .no
def dNewN : DE := fun _ h => .ok (.ref h.length) (h ++ [.nd []])
def dAugS (a b : DE) (fget : D2) (d : DE) (f2 : D2) (fset : DSet) : DS := fun es h => (a es h).bind fun o h1 => (b es h1).bind fun i h2 => (fget o i h2).bind fun x h3 => (d es h3).bind fun y h4 => (f2 x y h4).bind fun z h5 => (fset o i z h5).bind fun _ h6 => .ok (.nx es) h6
def fGetL : D2 := fun x y h => match x, y with
  | .ref m, .int i => match lstAt h m with
    | some xs => if 0 ≤ i then match atI xs i with
      | some v => .ok v h
      | none => .no
      else .no
    | none => .no
  | _, _ => .no
theorem nd_at {G : Gx} {ρ : Rho} {H : Hp} {eh : EH} {n : Nat} {ks : List (EV × EV)} (hr : HR G ρ H eh) (e : ndAt eh n = some ks) : ∃ a ys, adr ρ n = some a ∧ ρ[n]? = some (true, a) ∧ H a = some (NdO a ys) ∧ NdR (VR G.K ρ H) ks ys := by
  unfold ndAt at e
  split at e
  · rename_i ks' q
    cases e
    exact nd_of hr q
  · cases e
section
variable {X : Cx} {ct : Nat → Addr × List Str} {E : XK} {G : Gx} {o i e : Expr} {da db dd : DE} {pos tpos : Pos}
def rNd (neg : Bool) (K : Fg) : R2 := fun y x H Q => ∃ (a b : Addr) (ρ : Rho) (ks : List (EV × EV)) (ys : List (NestedKey × Addr × Value)) (e : EV) (k : NestedKey), x = .ref a ∧ y = .ref b ∧ H a = some (NdO a ys) ∧ NdR (VR K ρ H) ks ys ∧ VR K ρ H e (.ref b) ∧ keyN e = some k ∧ k.depth ≤ 8 ∧ Q (.bl (neg ^^ ndHas ks k)) H
theorem snd_ndIn {neg : Bool} : Snd2 G E (rNd neg G.K) (fNdIn neg) := fun ρ H eh x y a b Q hr hx hy h => by
  unfold fNdIn at h
  split at h
  · rename_i n
    split at h
    · rename_i ks k e1 e2
      obtain ⟨p, ys, g1, g2, g3, g4⟩ := nd_at hr e1
      obtain ⟨p', q1, rfl⟩ := vr_ref.mp hy
      rw [g1] at q1; cases q1
      obtain ⟨k1, k2, xs, rfl⟩ := nkey_of e2
      obtain ⟨b', vs, rfl, v1, v2⟩ := vr_tup.mp hx
      exact ⟨p, b', ρ, ks, ys, .tup xs, k, rfl, rfl, g3, g4, hx, k1, k2, h ρ H _ (Ext.refl _ _ _) hr (vr_bl.mpr rfl)⟩
    · exact h.elim
  · exact h.elim
theorem o_ndIn (hu : X.A.units + 64 < cLine) : Opd X ct E (compareOp .In) (fNdIn false) := ⟨rNd false X.K, by
  rintro pins s σ H y x v u Q I ry rx ⟨a, b, ρ, ks, ys, e, k, rfl, rfl, g1, g2, g3, g4, g5, q⟩
  obtain rfl : u = Value.ref a := rx
  obtain rfl : v = Value.ref b := ry
  obtain ⟨hd, _, dd⟩ := nd_dict I.hok g1 g2
  have hk : (nestedKind X.prog X.w).is s.heap k b := ⟨nested_is I.hok e k (.ref b) (.ref b) g3 g4 rfl, g5⟩
  refine wpAny_in_heap (knd := nestedKind X.prog X.w) (show X.A.units + 1 + 8 < cLine by omega) hk hd dd ?_
  rw [ndr_at k g2]
  exact ⟨.bl _, H, I.tok _, rfl, by simpa using q⟩, snd_ndIn (G := ⟨X.K, ct⟩)⟩
theorem o_ndNotIn (hu : X.A.units + 64 < cLine) : Opd X ct E (compareOp .NotIn) (fNdIn true) := ⟨rNd true X.K, by
  rintro pins s σ H y x v u Q I ry rx ⟨a, b, ρ, ks, ys, e, k, rfl, rfl, g1, g2, g3, g4, g5, q⟩
  obtain rfl : u = Value.ref a := rx
  obtain rfl : v = Value.ref b := ry
  obtain ⟨hd, _, dd⟩ := nd_dict I.hok g1 g2
  have hk : (nestedKind X.prog X.w).is s.heap k b := ⟨nested_is I.hok e k (.ref b) (.ref b) g3 g4 rfl, g5⟩
  refine wpAny_notIn_heap (knd := nestedKind X.prog X.w) (show X.A.units + 1 + 8 < cLine by omega) hk hd dd ?_
  rw [ndr_at k g2]
  exact ⟨.bl _, H, I.tok _, rfl, by simpa using q⟩, snd_ndIn (G := ⟨X.K, ct⟩)⟩
def rNdS (K : Fg) : TSet := fun o i v H Q => ∃ (a b : Addr) (ρ : Rho) (ks : List (EV × EV)) (ys : List (NestedKey × Addr × Value)) (e x : EV) (k : NestedKey), o = .ref a ∧ i = .ref b ∧ H a = some (NdO a ys) ∧ NdR (VR K ρ H) ks ys ∧ VR K ρ H e (.ref b) ∧ VR K ρ H x v ∧ keyN e = some k ∧ k.depth ≤ 8 ∧ ks.length < 100000 ∧ ∀ vv : Value, RelV v vv → Q (upd H a (NdO a (storedH ys k b vv)))
theorem set_nd (hu : X.A.units + 64 < cLine) : PSetd X ct E sNd := ⟨rNdS X.K, by
  rintro pins s σ H o i v ov iv nv Q I ro ri rv ⟨a, b, ρ, ks, ys, e, x, k, rfl, rfl, g1, g2, g3, gx, g4, g5, g6, q⟩
  obtain rfl : ov = Value.ref a := ro
  obtain rfl : iv = Value.ref b := ri
  obtain ⟨hd, hz, dd⟩ := nd_dict I.hok g1 g2
  have hl : (storedH ys k b nv).length ≤ sizeLine := by
    have e1 := ndr_len (ndr_stored (R := VR X.K ρ H) g4 g5 g3 gx rv g2)
    have e2 : (ndPut ks k e x).length ≤ ks.length + 1 := by
      unfold ndPut
      split
      · simp
      · rw [List.length_append]; simp
    have e3 : (100000 : Nat) ≤ sizeLine := by decide
    omega
  have hk : (nestedKind X.prog X.w).is s.heap k b := ⟨nested_is I.hok e k (.ref b) (.ref b) g3 g4 rfl, g5⟩
  refine wpAny_setItem_heap (knd := nestedKind X.prog X.w) (hsz := hz) (show X.A.units + 1 + 8 < cLine by omega) hk dd fun h' dd' hs => ?_
  have he : ∃ q, h'.get? a = some q := let ⟨q, _, _, hq, _⟩ := dd'; ⟨q, hq⟩
  exact ⟨_, d_write I (by rw [g1]; exact True.intro) hs he (nd_ok hd hl dd'), q nv rv⟩, fun ρ H eh o i x a b c Q hr ho hi hx h => by
  unfold sNd at h
  split at h
  · rename_i n
    split at h
    · rename_i ks k e1 e2
      split at h
      · rename_i hl
        obtain ⟨p, ys, g1, g2, g3, g4⟩ := nd_at hr e1
        obtain ⟨p', q1, rfl⟩ := vr_ref.mp ho
        rw [g1] at q1; cases q1
        obtain ⟨k1, k2, xs, rfl⟩ := nkey_of e2
        obtain ⟨b', vs, rfl, v1, v2⟩ := vr_tup.mp hi
        refine ⟨p, b', ρ, ks, ys, .tup xs, x, k, rfl, rfl, g3, g4, hi, hx, k1, k2, hl, fun vv rv => ?_⟩
        have ex : Ext X.K ρ ρ H (upd H p (NdO p (storedH ys k b' vv))) := Ext.write _ g2 g3 (fun _ z => by unfold NdO at z; cases z) (fun _ _ z => by unfold NdO at z; cases z) pln_nd
        refine h ρ _ () ex (hr.write g2 rfl ex ?_) trivial
        exact ⟨_, upd_same, (ndr_stored k1 k2 hi hx rv g4).mono fun x v => VR.mono ex x v⟩
      · exact h.elim
    · exact h.elim
  · exact h.elim⟩
theorem m_getN (hu : X.A.units + 64 < cLine) : Mtd X ct E "dict.get" mGetN := ⟨fun x xs H Q => ∃ (a b : Addr) (ρ : Rho) (ks : List (EV × EV)) (ys : List (NestedKey × Addr × Value)) (e : EV) (k : NestedKey), x = .ref a ∧ xs = [.ref b] ∧ H a = some (NdO a ys) ∧ NdR (VR X.K ρ H) ks ys ∧ VR X.K ρ H e (.ref b) ∧ keyN e = some k ∧ k.depth ≤ 8 ∧ ∀ w, (∀ z, ndVal ks k = some z → VR X.K ρ H z w) → (ndVal ks k = none → w = .non) → Q w H, by
  rintro pins s σ H x xs v us Q I rx r ⟨a, b, ρ, ks, ys, e, k, rfl, rfl, g1, g2, g3, g4, g5, q⟩
  obtain rfl : v = Value.ref a := rx
  obtain ⟨u, rfl, ru⟩ := vals1 r
  obtain rfl : u = Value.ref b := ru
  obtain ⟨hd, _, dd⟩ := nd_dict I.hok g1 g2
  have hk : (nestedKind X.prog X.w).is s.heap k b := ⟨nested_is I.hok e k (.ref b) (.ref b) g3 g4 rfl, g5⟩
  refine call_meetsIn PySem.F.slot_dict_get dd.typeIs PySem.F.entry_dict_get (PySem.F.args_dict_get_2 _ _) (meetsH_dict_get (nestedKind X.prog X.w) a b hd) ⟨show X.A.units + 1 + 8 < cLine by omega, k, ys, hk, dd, ?_⟩
  have nv := ndr_val k g2
  cases c : ndVal ks k with
  | none =>
    rw [c] at nv
    cases c2 : (atKey ys k).map (·.2) with
    | some _ => rw [c2] at nv; exact nv.elim
    | none => exact ⟨.non, H, I.tok _, rfl, q .non (fun z hz => by rw [c] at hz; cases hz) fun _ => rfl⟩
  | some z =>
    rw [c] at nv
    cases c2 : (atKey ys k).map (·.2) with
    | none => rw [c2] at nv; exact nv.elim
    | some v =>
      rw [c2] at nv
      obtain ⟨w, n1, n2⟩ := nv
      exact ⟨w, H, I.tok _, n2, q w (fun z' hz => by rw [c] at hz; cases hz; exact n1) fun hz => by rw [c] at hz; cases hz⟩, fun ρ H eh x a xs as Q hr hx hxs h => by
  unfold mGetN at h
  split at h
  · rename_i n y
    split at h
    · rename_i ks k e1 e2
      obtain ⟨p, ys, g1, g2, g3, g4⟩ := nd_at hr e1
      obtain ⟨p', q1, rfl⟩ := vr_ref.mp hx
      rw [g1] at q1; cases q1
      obtain ⟨v, rfl, hv⟩ := vrs_one hxs
      obtain ⟨k1, k2, zs, rfl⟩ := nkey_of e2
      obtain ⟨b', vs, rfl, v1, v2⟩ := vr_tup.mp hv
      refine ⟨p, b', ρ, ks, ys, .tup zs, k, rfl, rfl, g3, g4, hv, k1, k2, fun w w1 w2 => h ρ H w (Ext.refl _ _ _) hr ?_⟩
      cases c : ndVal ks k with
      | none => rw [w2 c]; exact vr_non.mpr rfl
      | some z => exact w1 z c
    · exact h.elim
  · exact h.elim⟩
theorem m_getD (hu : X.A.units + 1 < cLine) : Mtd X ct E "dict.get" mGetD := ⟨fun x xs H Q => ∃ a y z o, x = .ref a ∧ xs = [y, z] ∧ DGet H a y o ∧ Q (o.getD z) H, by
  rintro pins s σ H x xs v us Q I rx r ⟨a, y, z, o, rfl, rfl, g, q⟩
  obtain rfl : v = Value.ref a := rx
  cases r with
  | @cons _ u _ _ ru rr =>
    cases rr with
    | @cons _ u2 _ _ ru2 rr2 =>
      cases rr2
      exact d_get2 hu I g ru ru2 fun w' s' I' rw' => ⟨_, H, I', rw', q⟩, fun ρ H eh x a xs as Q hr hx hxs h => by
  unfold mGetD at h
  split at h
  · rename_i n y z
    split at h
    · rename_i t kvs e3
      split at h
      · rename_i o e4
        obtain ⟨p, uo, g1, g2, g3⟩ := dic_of hr e3
        obtain ⟨p', q1, rfl⟩ := vr_ref.mp hx
        rw [g1] at q1; cases q1
        obtain ⟨v, w, rfl, hv, hw⟩ := vrs_two hxs
        obtain ⟨ov, k1, k2⟩ := dget_of g2 g3 e4 hv
        refine ⟨p, v, w, ov, rfl, rfl, k1, h ρ H _ (Ext.refl _ _ _) hr ?_⟩
        cases o with
        | none =>
          cases ov with
          | none => exact hw
          | some _ => exact k2.elim
        | some x =>
          cases ov with
          | none => exact k2.elim
          | some _ => exact k2
      · exact h.elim
    · exact h.elim
  · exact h.elim⟩
theorem pe_dnewN : PE X (.Dict [] [] pos) (fun _ H Q => ∀ p, H p = none → Q (.ref p) (upd H p (NdO p []))) := ⟨fun pins s σ H Q I h =>
  wpAny_Dict_empty ⟨.ref s.heap.objs.size, _, I.laid (a := s.heap.objs.size) (o := NdO s.heap.objs.size []) (t' := s.toks) (fun _ _ q => Heap.get?_push_of_some _ q) (Nat.le_refl _)
    (nd_ok (beq_eq_false_iff_ne.mpr (Ne.symm (Nat.ne_of_lt I.big))) (Nat.zero_le _) (Heap.DictOfH.new s.heap)), rfl, h _ (I.hok.fresh (Nat.le_refl _))⟩⟩
theorem xe_dnewN : PEd X ct E (.Dict [] [] pos) dNewN := ⟨_, pe_dnewN, fun ρ σ H es eh Q rel h p hp =>
  h (ρ ++ [(true, p)]) _ _ (Ext.alloc _ hp) (rel.hr.alloc (o := .nd []) hp rfl ⟨[], upd_same, rfl⟩) (vr_ref.mpr ⟨p, last_get rel.hr.len, rfl⟩)⟩
def Getd (X : Cx) (ct : Nat → Addr × List Str) (E : XK) (f : D2) : Prop := ∃ t, PGet X t ∧ Snd2 ⟨X.K, ct⟩ E t f
theorem get_lst : Getd X ct E fGetL := ⟨fun x y H Q => ∃ p xs i v, x = .ref p ∧ y = .int i ∧ 0 ≤ i ∧ SqL X.K H p xs ∧ atI xs i = some v ∧ Q v H, by
  rintro pins s σ H x y v u Q I rx ry ⟨p, xs, i, z, rfl, rfl, h0, hq, he, q⟩
  cases rx
  obtain ⟨t, rfl⟩ := ry
  obtain ⟨its, r, pl, hz⟩ := I.list hq
  obtain ⟨j, h1, h2, h3, h4, h5⟩ := atI_get he
  obtain ⟨w, ew, rw'⟩ := r.get h2
  have hl := r.length
  have hn := line63
  have hj : i.toNat = j := by
    rw [seqIndex_of h0 h5] at h1
    exact Option.some.inj h1
  exact wpAny_getItem_list pl.isList h0 (by omega) (by rw [hj]; simpa using ew) ⟨z, H, I, rw', q⟩, fun ρ H eh x y a b Q hr hx hy h => by
  unfold fGetL at h
  split at h
  · rename_i m i
    split at h
    · rename_i xs e1
      split at h
      · rename_i h0
        split at h
        · rename_i v e2
          obtain ⟨a1, vs, g1, g2, g3⟩ := lst_of hr e1
          obtain ⟨a', q1, rfl⟩ := vr_ref.mp hx
          rw [g1] at q1; cases q1
          obtain ⟨w, w1, w2⟩ := atI_vr g3 e2
          exact ⟨a1, vs, i, w, rfl, vr_int.mp hy, h0, g2, w1, h ρ H _ (Ext.refl _ _ _) hr w2⟩
        · exact h.elim
      · exact h.elim
    · exact h.elim
  · exact h.elim⟩
theorem xs_augS {op : Operator} {fget f2 : D2} {fset : DSet} (ho : PEd X ct E o da) (hi : PEd X ct E i db) (hg : Getd X ct E fget) (he : PEd X ct E e dd) (hp : Opd X ct E (inplaceOp op) f2) (hs : PSetd X ct E fset)
    (ha : ∀ ov iv new, augStore i ov iv new = (do holding [new, ov, iv] (setItem ov iv new); release [new, ov, iv] []; pure .next) := by intros; rfl) : PSd X ct E (.AugAssign (.Subscript o i tpos) op e pos) (dAugS da db fget dd f2 fset) := by
  obtain ⟨t1, a1, b1⟩ := ho
  obtain ⟨t2, a2, b2⟩ := hi
  obtain ⟨t3, a3, b3⟩ := hg
  obtain ⟨t4, a4, b4⟩ := he
  obtain ⟨t5, a5, b5⟩ := hp
  obtain ⟨t6, a6, b6⟩ := hs
  refine ⟨_, ps_augS a1 a2 a3 a4 a5 a6 ha, fun ρ σ H es eh D rel h => ?_⟩
  refine b1.bind rel h fun ρ1 H1 o1 eh1 w1 e1 rel1 v1 h1 => ?_
  refine b2.bind rel1 h1 fun ρ2 H2 o2 eh2 w2 e2 rel2 v2 h2 => ?_
  refine b3.bind rel2.hr (v1.mono e2) v2 h2 fun ρ3 H3 o3 eh3 w3 e3 hr3 v3 h3 => ?_
  have rel3 : Rel ⟨X.K, ct⟩ ρ3 σ H3 es eh3 := ⟨rel2.sl.mono e3, hr3⟩
  refine b4.bind rel3 h3 fun ρ4 H4 o4 eh4 w4 e4 rel4 v4 h4 => ?_
  refine b5.bind rel4.hr (v3.mono e4) v4 h4 fun ρ5 H5 o5 eh5 w5 e5 hr5 v5 h5 => ?_
  refine b6 ρ5 H5 eh5 o1 o2 o5 w1 w2 w5 _ hr5 ((((v1.mono e2).mono e3).mono e4).mono e5) (((v2.mono e3).mono e4).mono e5) v5 ?_
  cases q : fset o1 o2 o5 eh5 with
  | ok v h' =>
    rw [q] at h5
    exact fun ρ' H' u e hr r => h5 ρ' H' (.nx σ) e hr ((rel4.sl.mono e5).mono e)
  | er z h' =>
    rw [q] at h5
    exact h5
  | no =>
    rw [q] at h5
    exact h5
end
def txsE : List EV → Option (List Str)
  | [] => some []
  | .str x :: xs => (txsE xs).map (x :: ·)
  | _ :: _ => none
theorem txsE_vrs {K : Fg} {ρ : Rho} {H : Hp} : ∀ {ys : List EV} {m : List Str} {us : List V}, txsE ys = some m → VRs K ρ H ys us → us = m.map V.str
  | [], m, us, h, hv => by
    cases h
    exact vrs_nil.mp hv
  | y :: ys, m, us, h, hv => by
    cases y with
    | str x =>
      simp only [txsE, Option.map_eq_some_iff] at h
      obtain ⟨r, h1, rfl⟩ := h
      obtain ⟨v, w, rfl, k1, k2⟩ := vrs_cons.mp hv
      rw [vr_str.mp k1, txsE_vrs h1 k2]
      rfl
    | _ => simp [txsE] at h
def fInS : D2 := fun x y h => match x, y with
  | .str i, .tup ys => match txsE ys with
    | some m => .ok (.bl (m.any fun a => a == i)) h
    | none => .no
  | _, _ => .no
theorem o_inS {X : Cx} {ct : Nat → Addr × List Str} {E : XK} : Opd X ct E (compareOp .In) fInS := ⟨_, op_in_seq, fun ρ H eh x y a b Q hr hx hy h => by
  unfold fInS at h
  split at h
  · rename_i i ys
    split at h
    · rename_i m e
      obtain ⟨dd, us, rfl, k1, k2⟩ := vr_tup.mp hy
      have eu := txsE_vrs e k2
      subst eu
      rw [vr_str.mp hx]
      refine ⟨dd, _, rfl, .inr (SqT.of k1), rfl, by simp [flatV], ?_⟩
      rw [if_neg (by decide)]
      refine h ρ H _ (Ext.refl _ _ _) hr (vr_bl.mpr ?_)
      unfold inV
      rw [List.any_map]
      rfl
    · exact h.elim
  · exact h.elim⟩
section
variable {X : Cx} {ct : Nat → Addr × List Str} {E : XK} {p pos : Pos}
theorem xe_make0 (c : Nat) {k : Nat} {x : Str} {fn : DL} (F : InitD X.prog X.w X.K X.mg X.base ct k c fn) (hr : Room (k + 1) X.A) (hg : Gl X x) (hm : X.mg x = some (.ref (ct c).1))
    (hdb : (x == ("__debug__" : Str)) = false := by decide) :
    PEd X ct E (.Call (.Name x p) [] [] pos) (dMake c (ct c).2.length fn dNil) := by
  obtain ⟨f, fd, ps, h1, hM, hb⟩ := F
  refine ⟨_, pe_make0 hM h1 hr hg hm hb .nil pass0 hdb, fun ρ σ H es eh Q rel h => ?_⟩
  refine (snd_nil (G := ⟨X.K, ct⟩) (E := E)).bind rel h fun ρ1 H1 xs eh1 us e1 rel1 v1 h1 => ?_
  intro a dx na ndx nex
  have nadx : a ≠ dx := fun z => nex z.symm
  have hr1 := rel1.hr.side (HO.own a) ndx
  have e2 : Ext X.K ρ1 ρ1 H1 (upd H1 dx (.own a)) := Ext.side _ ndx
  have na2 : upd H1 dx (.own a) a = none := by rw [upd_ne nadx]; exact na
  have e3 : Ext X.K ρ1 (ρ1 ++ [(true, a)]) (upd H1 dx (.own a)) (upd (upd H1 dx (.own a)) a (.ins (ct c).1 dx [])) := Ext.alloc _ na2
  have ho : OR ⟨X.K, ct⟩ (ρ1 ++ [(true, a)]) (upd (upd H1 dx (.own a)) a (.ins (ct c).1 dx [])) (.obj c (List.replicate (ct c).2.length none)) a := by
    refine ⟨dx, [], upd_same, by simp, by simp, fun i x hx m hm => ?_, fun m _ => rfl⟩
    rw [List.getElem?_replicate] at hx
    split at hx
    · cases hx; exact True.intro
    · cases hx
  have hr3 := hr1.alloc na2 rfl ho
  have hl := rel1.hr.len
  have hv : VR X.K (ρ1 ++ [(true, a)]) (upd (upd H1 dx (.own a)) a (.ins (ct c).1 dx [])) (.ref eh1.length) (.ref a) := vr_ref.mpr ⟨a, last_get hl, rfl⟩
  refine ⟨ρ1 ++ [(true, a)], .ref eh1.length :: xs, eh1 ++ [.obj c (List.replicate (ct c).2.length none)], ?_, hr3, ?_⟩
  · rw [List.append_nil]
    exact vrs_cons.mpr ⟨.ref a, us, rfl, hv, VRs.mono (e2.trans e3) _ _ v1⟩
  · have h2 := h1.mono (e2.trans e3)
    cases q : fn (.ref eh1.length :: xs) (eh1 ++ [.obj c (List.replicate (ct c).2.length none)]) with
    | no => rw [q] at h2; exact h2
    | er z h' => rw [q] at h2; exact h2.elim
    | ok v h' =>
      rw [q] at h2
      intro ρ4 H4 vv e4 hr4 r4
      simp only [noer_ok, bind_ok] at h2
      split at h2
      · exact ⟨vr_non.mp r4, h2 ρ4 H4 (.ref a) e4 hr4 (VR.mono e4 _ _ hv)⟩
      · exact h2.elim
end
end EE
set_option Elab.async false
set_option linter.all false
set_option maxRecDepth 100000
set_option maxHeartbeats 1000000
namespace EE
open PySem PySem.Spec PyProof.Rows L2
def tCsO : List (Option (Str × List Nat) × TS) → TS
  | [] => fun D σ H => D.nx σ H
  | (none, t) :: _ => t
  | (some _, _) :: r => tCsO r
def OddV (xs : List V) : Prop := xs = [] ∨ ∃ i r, xs = .int i :: r
section
variable {X : Cx} {pins : List (Addr × Obj)}
theorem cs_runO {cs : List MatchCase} {ts : List (Option (Str × List Nat) × TS)} (h : PMc X cs ts) (hc : X.calm = true) : ∀ {σ : L2.St} {H : Hp} {s : Shared} {D : Ends} {a : Addr} {xs : List V} {first : Bool}, Inv X pins σ H s → SqT X.K H a xs → OddV xs → tCsO ts D σ H →
    wpAny (model X.prog X.w) X.A (matchCases cs X.env (.ref a) first) (SP X pins D) X.xe s := by
  induction h with
  | nil =>
    intro σ H s D a xs first I hq ho h
    exact wpAny_matchCases_nil ⟨σ, H, I, h⟩
  | wild hb =>
    intro σ H s D a xs first I hq ho h
    refine wpAny_matchCases_cons (wpAny_matchPattern_Capture ?_)
    exact wpAny_assignInOrder_none (hb.run pins s σ H D I h)
  | @cons z j p p1 p2 ps is b t rest r hcap hb hr ih =>
    intro σ H s D a xs first I hq ho h
    obtain ⟨its, rv, ht, hz⟩ := I.tuple hq
    have hzz : ((its.toArray.size : Nat) : Int) < 2 ^ 63 := by
      have := rv.length
      rw [sizeLine_eq] at hz
      rw [List.size_toArray, ← this]
      omega
    have hst : (Pattern.MatchValue (.Constant (.str z) j p1) p2 :: ps).findIdx? (·.isStar) = none := by
      rw [List.findIdx?_cons]
      have e : (Pattern.MatchValue (.Constant (.str z) j p1) p2).isStar = false := rfl
      rw [e]
      simp [caps_star hcap]
    have hw : ((Pattern.MatchValue (.Constant (.str z) j p1) p2 :: ps).all fun p => p.isWildcard || (p.isStar && p.names.isEmpty)) = false := by
      rw [List.all_cons]
      have e : ((Pattern.MatchValue (.Constant (.str z) j p1) p2).isWildcard || ((Pattern.MatchValue (.Constant (.str z) j p1) p2).isStar && (Pattern.MatchValue (.Constant (.str z) j p1) p2).names.isEmpty)) = false := rfl
      rw [e]
      rfl
    have h' : tCsO r D σ H := h
    refine wpAny_matchCases_cons ?_
    by_cases hn : its.toArray.size = (Pattern.MatchValue (.Constant (.str z) j p1) p2 :: ps).length
    · refine matchSeq_tuple_hit ht hzz hn ?_ hst hw
      rw [← hn]
      have I0 := I.tok (s.toks + 1 + 1)
      refine unpackItems_tuple (s := { s with toks := s.toks + 1 + 1 }) (I.ok.hd hc) ht fun h2 hx => ?_
      have I1 : Inv X pins σ H { s with heap := h2, toks := s.toks + 1 + 1 } := I.kept (t' := s.toks + 1 + 1) fun b o e => hx b o (Nat.ne_of_lt (Heap.lt_size e)) e
      rcases ho with rfl | ⟨i, xr, rfl⟩
      · cases rv
        rw [List.length_cons] at hn
        cases hn
      · cases rv with
        | @cons v u vs us r0 rr =>
          obtain ⟨tk, rfl⟩ := r0
          refine wpAny_matchEach_cons (wpAny_matchPattern_Value (Calls.Constant_str (PySem.EqMixed.eq_int_str (wpAny_truthy_bool ?_)))) rfl
          exact ih (I1.tok _) hq (.inr ⟨i, xr, rfl⟩) h'
    · refine matchSeq_tuple_miss ht hzz hn ?_ hst hw
      exact ih (I.tok _) hq ho h'
def tMatchO (K : Fg) (te : TE) (cs : List (Option (Str × List Nat) × TS)) : TS := fun D σ H => te σ H fun v H1 => ∃ a xs, v = .ref a ∧ SqT K H1 a xs ∧ ((∃ y r, xs = .str y :: r ∧ tCs y r cs D σ H1) ∨ (OddV xs ∧ tCsO cs D σ H1))
theorem ps_matchO {e : Expr} {te : TE} {cs : List MatchCase} {ts : List (Option (Str × List Nat) × TS)} {pos : Pos} (hN : X.N.Nodup) (hc : X.calm = true) (he : PE X e te) (h : PMc X cs ts) : PS X (.Match e cs pos) (tMatchO X.K te ts) := by
  refine ⟨fun pins s σ H D I hh => wpAny_Match (thn (he.run pins s σ H _ I hh) fun v s1 ⟨x, H1, I1, r1, q1⟩ => ?_)⟩
  obtain ⟨a, xs, rfl, hq, q⟩ := q1
  obtain rfl : v = .ref a := r1
  rcases q with ⟨y, r, rfl, q⟩ | ⟨ho, q⟩
  · exact cs_run h hN hc I1 hq q
  · exact cs_runO h hc I1 hq ho q
end
def dCsO : List (Option (Str × List Nat) × DS) → DS
  | [] => fun es h => .ok (.nx es) h
  | (none, d) :: _ => d
  | (some _, _) :: r => dCsO r
def dMatchO (e : DE) (cs : List (Option (Str × List Nat) × DS)) : DS := fun es h => (e es h).bind fun x h1 => match x with
  | .tup (.str y :: xs) => dCs y xs cs es h1
  | .tup [] => dCsO cs es h1
  | .tup (.int _ :: _) => dCsO cs es h1
  | _ => .no
section
variable {X : Cx} {ct : Nat → Addr × List Str} {E : XK}
theorem pmd_pmcO {cs : List MatchCase} {ds : List (Option (Str × List Nat) × DS)} (h : PMd X ct E cs ds) : ∃ ts, PMc X cs ts ∧ (∀ y (xs : List EV) (vs : List V) ρ σ H es eh D, Rel ⟨X.K, ct⟩ ρ σ H es eh → VRs X.K ρ H xs vs → wr ⟨X.K, ct⟩ (RF ⟨X.K, ct⟩) ρ H (dCs y xs ds es eh) (qD D) E → tCs y vs ts D σ H) ∧
    ∀ ρ σ H es eh D, Rel ⟨X.K, ct⟩ ρ σ H es eh → wr ⟨X.K, ct⟩ (RF ⟨X.K, ct⟩) ρ H (dCsO ds es eh) (qD D) E → tCsO ts D σ H := by
  induction h with
  | nil => exact ⟨[], .nil, fun y xs vs ρ σ H es eh D rel hv h => h ρ H (.nx σ) (Ext.refl _ _ _) rel.hr rel.sl, fun ρ σ H es eh D rel h => h ρ H (.nx σ) (Ext.refl _ _ _) rel.hr rel.sl⟩
  | wild hb =>
    obtain ⟨t, a1, a2⟩ := hb
    exact ⟨[(none, t)], .wild a1, fun y xs vs ρ σ H es eh D rel hv h => a2 ρ σ H es eh D rel h, fun ρ σ H es eh D rel h => a2 ρ σ H es eh D rel h⟩
  | @cons z j p p1 p2 ps is b d rest r hc hb hr ih =>
    obtain ⟨ts, p1', p2', p3'⟩ := ih
    obtain ⟨t, a1, a2⟩ := hb
    refine ⟨(some (z, is), t) :: ts, .cons hc a1 p1', fun y xs vs ρ σ H es eh D rel hv h => ?_, fun ρ σ H es eh D rel h => p3' ρ σ H es eh D rel h⟩
    unfold tCs
    unfold dCs at h
    rw [← hv.length]
    split at h
    · rename_i hh
      rw [if_pos hh]
      exact a2 ρ _ H _ eh D ⟨rel.sl.setAll hv, rel.hr⟩ h
    · rename_i hh
      rw [if_neg hh]
      exact p2' y xs vs ρ σ H es eh D rel hv h
theorem xs_matchO {e : Expr} {d : DE} {cs : List MatchCase} {ds : List (Option (Str × List Nat) × DS)} {pos : Pos} (hN : X.N.Nodup) (hc : X.calm = true) (he : PEd X ct E e d) (h : PMd X ct E cs ds) : PSd X ct E (.Match e cs pos) (dMatchO d ds) := by
  obtain ⟨ts, a1, a2, a3⟩ := pmd_pmcO h
  obtain ⟨t, b1, b2⟩ := he
  refine ⟨_, ps_matchO hN hc b1 a1, fun ρ σ H es eh D rel h => ?_⟩
  refine b2.bind rel h fun ρ1 H1 x eh1 u e1 rel1 v1 h1 => ?_
  split at h1
  · rename_i y xs
    obtain ⟨a, vs, rfl, g1, g2⟩ := vr_tup.mp v1
    obtain ⟨v, r, rfl, k1, k2⟩ := vrs_cons.mp g2
    rw [vr_str.mp k1] at g1
    exact ⟨a, _, rfl, .inl (.inl g1), .inl ⟨y, r, rfl, a2 y xs r ρ1 σ H1 es eh1 D rel1 k2 h1⟩⟩
  · obtain ⟨a, vs, rfl, g1, g2⟩ := vr_tup.mp v1
    rw [vrs_nil] at g2
    subst g2
    exact ⟨a, _, rfl, .inl (.inl g1), .inr ⟨.inl rfl, a3 ρ1 σ H1 es eh1 D rel1 h1⟩⟩
  · obtain ⟨a, vs, rfl, g1, g2⟩ := vr_tup.mp v1
    obtain ⟨v, r, rfl, k1, k2⟩ := vrs_cons.mp g2
    rw [vr_int.mp k1] at g1
    exact ⟨a, _, rfl, .inl (.inl g1), .inr ⟨.inr ⟨_, r, rfl⟩, a3 ρ1 σ H1 es eh1 D rel1 h1⟩⟩
  · exact h1.elim
def fCatT : D2 := fun x y h => match x, y with
  | .tup (x :: xs), .tup ys => if xs.length + 1 + ys.length ≤ 100000 then .ok (.tup ((x :: xs) ++ ys)) h else .no
  | _, _ => .no
theorem o_catT : Opd X ct E (binaryOp .Add) fCatT := ⟨_, op_catT, fun ρ H eh x y a b Q hr hx hy h => by
  unfold fCatT at h
  split at h
  · rename_i x xs ys
    split at h
    · rename_i hl
      obtain ⟨p, us, rfl, g1, g2⟩ := vr_tup.mp hx
      obtain ⟨p2, ws, rfl, g3, g4⟩ := vr_tup.mp hy
      have l1 := g2.length
      have l2 := g4.length
      rw [List.length_cons] at l1
      have hz : us.length + ws.length ≤ sizeLine := Nat.le_trans (by omega) (show (100000 : Nat) ≤ sizeLine by decide)
      refine ⟨p, p2, us, ws, rfl, rfl, SqT.of g1, SqT.of g3, (fun z => by rw [z] at l1; cases l1), hz, fun z => ?_, fun z q hq => ?_⟩
      · subst z
        have : ys = [] := List.eq_nil_of_length_eq_zero (by simpa using l2)
        subst this
        rw [List.append_nil] at h
        exact h ρ H _ (Ext.refl _ _ _) hr hx
      · refine h ρ _ _ (Ext.side _ hq) (hr.side _ hq) (vr_tup.mpr ⟨q, us ++ ws, rfl, upd_same, ?_⟩)
        exact VRs.mono (Ext.side _ hq) _ _ (VRs.append g2 g4)
    · exact h.elim
  · exact h.elim⟩
def fNotInS : D2 := fun x y h => match x, y with
  | .str i, .tup ys => match txsE ys with
    | some m => .ok (.bl (!m.any fun a => a == i)) h
    | none => .no
  | _, _ => .no
theorem o_notInS : Opd X ct E (compareOp .NotIn) fNotInS := ⟨_, op_notIn_seq, fun ρ H eh x y a b Q hr hx hy h => by
  unfold fNotInS at h
  split at h
  · rename_i i ys
    split at h
    · rename_i m e
      obtain ⟨dd, us, rfl, k1, k2⟩ := vr_tup.mp hy
      have eu := txsE_vrs e k2
      subst eu
      rw [vr_str.mp hx]
      refine ⟨dd, _, rfl, .inr (SqT.of k1), rfl, by simp [flatV], ?_⟩
      rw [if_pos rfl]
      refine h ρ H _ (Ext.refl _ _ _) hr (vr_bl.mpr ?_)
      unfold inV
      rw [List.any_map]
      rfl
    · exact h.elim
  · exact h.elim⟩
def fSlA : EV → Option Int → Option Int → EH → Res EV := fun x lo hi h => match x with
  | .tup xs => .ok (.tup (cutE xs lo hi)) h
  | _ => .no
theorem xe_sliceA {a : Expr} {lo hi : Option Expr} {p2 pos : Pos} {da : DE} {dl dh : ES → EH → Res (Option Int)} (ha : PEd X ct E a da) (hl : POd X ct E lo dl) (hh : POd X ct E hi dh) : PEd X ct E (.Subscript a (.Slice lo hi none p2) pos) (dSl fSlA da dl dh) := by
  obtain ⟨t, h1, h2⟩ := ha
  obtain ⟨tl, l1, l2⟩ := hl
  obtain ⟨th, k1, k2⟩ := hh
  refine ⟨_, pe_slice sl_tupA h1 l1 k1, fun ρ σ H es eh Q rel h => ?_⟩
  refine h2.bind rel h fun ρ1 H1 x eh1 u e1 rel1 v1 h1 => ?_
  refine l2.bind rel1 h1 fun ρ2 H2 l eh2 l' e2 rel2 v2 h2 => ?_
  refine k2.bind rel2 h2 fun ρ3 H3 k eh3 k' e3 rel3 v3 h3 => ?_
  cases v2
  cases v3
  have v1' := (v1.mono e2).mono e3
  unfold fSlA at h3
  split at h3
  · rename_i xs
    obtain ⟨a1, vs, rfl, g2, g3⟩ := vr_tup.mp v1'
    refine ⟨a1, vs, rfl, SqT.of g2, fun hw => ?_, fun hw p hp => ?_⟩
    · have : cutE xs l k = xs := by
        unfold cutE
        rw [← g3.length] at hw
        rw [hw.1, hw.2, List.drop_zero, Nat.sub_zero, List.take_length]
      rw [this] at h3
      exact h3 ρ3 H3 _ (Ext.refl _ _ _) rel3.hr v1'
    · have e4 : Ext X.K ρ3 ρ3 H3 (upd H3 p (.tup (cutV vs l k))) := Ext.side _ hp
      refine h3 ρ3 _ _ e4 (rel3.hr.side _ hp) (vr_tup.mpr ⟨p, _, rfl, upd_same, VRs.mono e4 _ _ ?_⟩)
      unfold cutE cutV
      rw [← g3.length]
      exact (g3.drop _).take _
  · exact h3.elim
variable {a e e' : Expr} {da : DE} {dr : DA}
theorem xe_getD {apos cpos : Pos} (hu : X.A.units + 1 < cLine) (ho : PEd X ct E a da) (ha : PAd X ct E [e, e'] dr)
    (hbase : attributeBase a "get" X.env (eval a X.env) = eval a X.env := by rfl)
    (hfew : ((backTo cpos (starEach [e, e'] X.env)).all (fun x => !x.1) && (backToKw cpos (keywordEach [] X.env)).all (fun x => x.1.isSome)
      && decide ([e, e'].length + ([] : List Keyword).length + (if ([] : List Keyword).isEmpty then 0 else 1) < 30)) = true := by rfl)
    (hline : (apos.endLine == cpos.line) = true := by rfl) (hs : starEach [e, e'] X.env = (false, eval e X.env) :: starEach [e'] X.env := by rfl) (hplain : (backTo cpos (starEach [e'] X.env)).any (·.1) = false := by rfl) :
    PEd X ct E (.Call (.Attribute a "get" apos) [e, e'] [] cpos) (dBMD mGetD da dr) := by
  obtain ⟨r, m1, m2⟩ := m_getD (X := X) (ct := ct) (E := E) hu
  obtain ⟨t, a1, a2⟩ := ho
  obtain ⟨u, b1, b2⟩ := ha
  exact ⟨_, pe_bm PySem.F.plainAttrs_dict PySem.F.slot_dict_get (by rfl) m1 a1 b1 hbase hfew hline hs hplain, snd_bmD m2 a2 b2⟩
def dBMN (f : EV → DL) (o : DE) (a : DA) : DE := fun es h => (o es h).bind fun x h1 => match x with
  | .ref n => match ndAt h1 n with
    | some _ => (a es h1).bind fun xs h2 => f x xs h2
    | none => .no
  | _ => .no
def tBMN (r : V → List V → Hp → VK → Prop) (to : TE) (t : TA) : TE := fun σ H Q => to σ H fun x H1 => (∃ a ys, x = .ref a ∧ H1 a = some (NdO a ys)) ∧ t σ H1 fun xs H2 => r x xs H2 Q
theorem pe_bmN {o : Expr} {es : List Expr} {to : TE} {t : TA} {name : Str} {apos cpos : Pos} {id : String} {r : V → List V → Hp → VK → Prop} (pa : PlainAttrs "dict") (slot : Slot "dict" name id) (hty : typeOf (.builtin id) = pure (.type "method_descriptor")) (hm : MtR X id r) (ho : PE X o to) (ha : PA X (e :: es) t)
    (hbase : attributeBase o name X.env (eval o X.env) = eval o X.env := by rfl)
    (hfew : ((backTo cpos (starEach (e :: es) X.env)).all (fun x => !x.1) && (backToKw cpos (keywordEach [] X.env)).all (fun x => x.1.isSome)
      && decide ((e :: es).length + ([] : List Keyword).length + (if ([] : List Keyword).isEmpty then 0 else 1) < 30)) = true := by rfl)
    (hline : (apos.endLine == cpos.line) = true := by rfl) (hs : starEach (e :: es) X.env = (false, eval e X.env) :: starEach es X.env := by rfl) (hplain : (backTo cpos (starEach es X.env)).any (·.1) = false := by rfl) :
    PE X (.Call (.Attribute o name apos) (e :: es) [] cpos) (tBMN r to t) := by
  refine ⟨fun pins s σ H Q I h => ?_⟩
  refine wpAny_Call_method_late hbase hfew hline rfl (thn (ho.run pins s σ H _ I h) fun v s1 ⟨x, H1, I1, r1, ⟨a, ys, ex, eH⟩, q1⟩ => ?_)
  subst ex
  obtain rfl : v = Value.ref a := r1
  obtain ⟨⟨_, _, _, _, ob, es', ep, g1, g2, g3, _⟩, _⟩ := I1.hok a _ eH
  refine ⟨"dict", id, pa, slot, hty, ⟨ob, g1, g2.1⟩, fun b eb => by cases eb; exact ⟨ob, g1, g2.2.1⟩, ?_⟩
  have hA := ha.run cpos pins s1 σ H1 _ I1 q1
  rw [hs] at hA ⊢
  refine Calls.callWith_builtin (by show (false || (backTo cpos (starEach es X.env)).any (·.1)) = false; rw [hplain] <;> rfl) (Calls.evalArgs_plain ?_)
  exact thn hA fun us s2 ⟨vs, H2, I2, r2, q2⟩ => hm pins s2 σ H2 (.ref a) vs (.ref a) us Q I2 rfl r2 q2
theorem xe_getN {apos cpos : Pos} (hu : X.A.units + 64 < cLine) (ho : PEd X ct E a da) (ha : PAd X ct E [e] dr)
    (hbase : attributeBase a "get" X.env (eval a X.env) = eval a X.env := by rfl)
    (hfew : ((backTo cpos (starEach [e] X.env)).all (fun x => !x.1) && (backToKw cpos (keywordEach [] X.env)).all (fun x => x.1.isSome)
      && decide ([e].length + ([] : List Keyword).length + (if ([] : List Keyword).isEmpty then 0 else 1) < 30)) = true := by rfl)
    (hline : (apos.endLine == cpos.line) = true := by rfl) (hs : starEach [e] X.env = (false, eval e X.env) :: starEach [] X.env := by rfl) (hplain : (backTo cpos (starEach [] X.env)).any (·.1) = false := by rfl) :
    PEd X ct E (.Call (.Attribute a "get" apos) [e] [] cpos) (dBMN mGetN da dr) := by
  obtain ⟨r, m1, m2⟩ := m_getN (X := X) (ct := ct) (E := E) hu
  obtain ⟨t, a1, a2⟩ := ho
  obtain ⟨u, b1, b2⟩ := ha
  refine ⟨_, pe_bmN PySem.F.plainAttrs_dict PySem.F.slot_dict_get (by rfl) m1 a1 b1 hbase hfew hline hs hplain, fun ρ σ H es eh Q rel h => ?_⟩
  refine a2.bind rel h fun ρ1 H1 x eh1 u e1 rel1 v1 h1 => ?_
  cases x with
  | ref n =>
    simp only at h1
    split at h1
    · rename_i tk e2
      obtain ⟨p, ys, g1, g2, g3, g4⟩ := nd_at rel1.hr e2
      obtain ⟨p', q1, rfl⟩ := vr_ref.mp v1
      rw [g1] at q1; cases q1
      refine ⟨⟨p, ys, rfl, g3⟩, b2.bind rel1 h1 fun ρ2 H2 xs eh2 us e2 rel2 v2 h2 => ?_⟩
      exact m2 ρ2 H2 eh2 _ _ xs us Q rel2.hr (v1.mono e2) v2 h2
    · exact h1.elim
  | _ => exact h1.elim
end
end EE
set_option Elab.async false
set_option linter.all false
set_option maxRecDepth 100000
set_option maxHeartbeats 1000000
namespace EE
open PySem PySem.Spec PyProof.Rows L2
section
variable {X : Cx} {ct : Nat → Addr × List Str} {E : XK} {a e : Expr} {da : DE} {dr : DA} {pos p2 : Pos}
def fSlX : EV → Option Int → Option Int → EH → Res EV := fun x lo hi h => match x with
  | .str z => if z.length ≤ 100000 then .ok (.str (cutS z lo hi)) h else .no
  | _ => .no
theorem xe_sliceX {lo hi : Option Expr} {dl dh : ES → EH → Res (Option Int)} (ha : PEd X ct E a da) (hl : POd X ct E lo dl) (hh : POd X ct E hi dh) : PEd X ct E (.Subscript a (.Slice lo hi none p2) pos) (dSl fSlX da dl dh) := by
  obtain ⟨t, h1, h2⟩ := ha
  obtain ⟨tl, l1, l2⟩ := hl
  obtain ⟨th, k1, k2⟩ := hh
  refine ⟨_, pe_slice sl_str h1 l1 k1, fun ρ σ H es eh Q rel h => ?_⟩
  refine h2.bind rel h fun ρ1 H1 x eh1 u e1 rel1 v1 w1 => ?_
  refine l2.bind rel1 w1 fun ρ2 H2 l eh2 l' e2 rel2 v2 w2 => ?_
  refine k2.bind rel2 w2 fun ρ3 H3 k eh3 k' e3 rel3 v3 w3 => ?_
  obtain rfl : l = l' := v2
  obtain rfl : k = k' := v3
  have v1' := (v1.mono e2).mono e3
  cases x with
  | str z =>
    have w3 : wr ⟨X.K, ct⟩ (VR X.K) ρ3 H3 (if z.length ≤ 100000 then .ok (.str (cutS z l k)) eh3 else .no) Q E := w3
    split at w3
    · rename_i hz
      exact ⟨z, vr_str.mp v1', sz5 hz, w3 ρ3 H3 _ (Ext.refl _ _ _) rel3.hr (vr_str.mpr rfl)⟩
    · exact w3.elim
  | _ => exact w3.elim
def fIxX : D2 := fun x y h => match x, y with
  | .str z, .int i => if z.length ≤ 100000 then (match atI z.cps.toList i with
    | some c => .ok (.str ⟨#[c]⟩) h
    | none => .no) else .no
  | _, _ => .no
theorem i_str : Ixd X ct E fIxX := ⟨_, ix_str, fun ρ H eh x y a b Q hr hx hy h => by
  unfold fIxX at h
  split at h
  · rename_i z i
    split at h
    · rename_i hz
      split at h
      · rename_i c ec
        exact ⟨z, i, c, vr_str.mp hx, vr_int.mp hy, sz5 hz, ec, h ρ H _ (Ext.refl _ _ _) hr (vr_str.mpr rfl)⟩
      · exact h.elim
    · exact h.elim
  · exact h.elim⟩
def signsE (z : Str) : List EV := z.cps.toList.map fun c => .str ⟨#[c]⟩
def dItS (d : DE) : DI := fun es h => (d es h).bind fun x h1 => match x with
  | .str z => .ok ⟨none, signsE z, fun _ x => x⟩ h1
  | _ => .no
theorem jr_signs {G : Gx} {ρ : Rho} {H : Hp} {z : Str} : JR G ρ H ⟨none, signsE z, fun _ x => x⟩ (Its z) := fun ρ' H' eh ys e hr hc => by
  cases hc
  refine ⟨fun i x hx => ?_, fun i hx => ?_⟩
  · unfold signsE at hx
    rw [List.getElem?_map] at hx
    obtain ⟨c, hc, rfl⟩ := Option.map_eq_some_iff.mp hx
    rw [Array.getElem?_toList] at hc
    have hlt := (Array.getElem?_eq_some_iff.mp hc).1
    refine ⟨hlt, fun y H2 hy => ?_⟩
    obtain ⟨rfl, c', hc', rfl⟩ := hy
    rw [hc] at hc'
    cases hc'
    exact ⟨Ext.refl _ _ _, hr, vr_str.mpr rfl⟩
  · have := List.getElem?_eq_none_iff.mp hx
    unfold signsE at this
    rw [List.length_map, Array.length_toList] at this
    exact this
theorem xi_str {tg : Expr} (h : PEd X ct E a da) : PId X ct E tg a (dItS da) := by
  obtain ⟨t, h1, h2⟩ := h
  refine ⟨_, pi_str h1, fun ρ σ H es eh Q rel h => ?_⟩
  refine h2.bind rel h fun ρ1 H1 x eh1 u e1 rel1 v1 w1 => ?_
  cases x with
  | str z => exact ⟨z, vr_str.mp v1, w1 ρ1 H1 _ (Ext.refl _ _ _) rel1.hr jr_signs⟩
  | _ => exact w1.elim
def fNotInX : D2 := fun x y h => match x, y with
  | .str a, .str z => match a.cps.toList with
    | [c] => .ok (.bl (!decide (c ∈ z.cps.toList))) h
    | _ => .no
  | _, _ => .no
theorem o_notInX : Opd X ct E (compareOp .NotIn) fNotInX := ⟨_, op_notIn_sign, fun ρ H eh x y u v Q hr hx hy h => by
  unfold fNotInX at h
  split at h
  · rename_i a z
    split at h
    · rename_i c ec
      have ea : a = ⟨#[c]⟩ := by
        obtain ⟨⟨l⟩⟩ := a
        have ec : l = [c] := ec
        rw [ec]
      subst ea
      exact ⟨c, z, vr_str.mp hx, vr_str.mp hy, h ρ H _ (Ext.refl _ _ _) hr (vr_bl.mpr rfl)⟩
    · exact h.elim
  · exact h.elim⟩
def fInD : D2 := fun x y h => match dat h x, dat h y with
  | some d, some (.list ds) => if (SeqAt.shaped d && SeqAt.shaped (.list ds)) = true then .ok (.bl (ds.any fun z => PyData.eqv z d)) h else .no
  | _, _ => .no
theorem o_inD (hu : X.A.units + 65 < cLine) : Opd X ct E (compareOp .In) fInD := ⟨_, op_inD hu, fun ρ H eh x y a b Q hr hx hy h => by
  unfold fInD at h
  split at h
  · rename_i d ds e1 e2
    split at h
    · rename_i hs
      simp only [Bool.and_eq_true] at hs
      exact ⟨d, ds, dat_dp hr hx e1, dat_dp hr hy e2, hs.1, hs.2, h ρ H _ (Ext.refl _ _ _) hr (vr_bl.mpr rfl)⟩
    · exact h.elim
  · exact h.elim⟩
def mIndexD : EV → DL := fun x xs h => match x, xs with
  | .ref n, [y] => match dat h (.ref n), dat h y with
    | some (.list ds), some d => if (SeqAt.shaped (.list ds) && SeqAt.shaped d) = true then (match ds.findIdx? fun z => PyData.eqv z d with
      | some j => .ok (.int (j : Int)) h
      | none => .no) else .no
    | _, _ => .no
  | _, _ => .no
theorem m_indexD (hu : X.A.units + 65 < cLine) : Mtd X ct E "list.index" mIndexD := ⟨_, mt_indexD hu, fun ρ H eh x a xs as Q hr hx hxs h => by
  unfold mIndexD at h
  split at h
  · rename_i n y
    split at h
    · rename_i ds d e1 e2
      split at h
      · rename_i hs
        simp only [Bool.and_eq_true] at hs
        split at h
        · rename_i j ej
          obtain ⟨v, rfl, hv⟩ := vrs_one hxs
          obtain ⟨p, q1, rfl⟩ := vr_ref.mp hx
          rw [List.findIdx?_eq_some_iff_getElem] at ej
          obtain ⟨hj, h1, h2⟩ := ej
          refine ⟨p, v, d, ds, j, ds[j], rfl, rfl, dat_dp hr hx e1, dat_dp hr hv e2, hs.1, hs.2, List.getElem?_eq_getElem hj, h1, fun m z' hm hz => ?_, h ρ H _ (Ext.refl _ _ _) hr (vr_int.mpr rfl)⟩
          have hm' : m < ds.length := by omega
          rw [List.getElem?_eq_getElem hm'] at hz
          cases hz
          simpa using h2 m hm
        · exact h.elim
      · exact h.elim
    · exact h.elim
  · exact h.elim⟩
theorem xe_index {apos cpos : Pos} (hu : X.A.units + 65 < cLine) (ho : PEd X ct E a da) (ha : PAd X ct E [e] dr)
    (hbase : attributeBase a "index" X.env (eval a X.env) = eval a X.env := by rfl)
    (hfew : ((backTo cpos (starEach [e] X.env)).all (fun x => !x.1) && (backToKw cpos (keywordEach [] X.env)).all (fun x => x.1.isSome)
      && decide ([e].length + ([] : List Keyword).length + (if ([] : List Keyword).isEmpty then 0 else 1) < 30)) = true := by rfl)
    (hline : (apos.endLine == cpos.line) = true := by rfl) (hs : starEach [e] X.env = (false, eval e X.env) :: starEach [] X.env := by rfl) (hplain : (backTo cpos (starEach [] X.env)).any (·.1) = false := by rfl) :
    PEd X ct E (.Call (.Attribute a "index" apos) [e] [] cpos) (dBM mIndexD da dr) := xe_bmL PySem.F.plainAttrs_list PySem.F.slot_list_index PySem.F.type_list_index (m_indexD hu) ho ha hbase hfew hline hs hplain
def mGet1 : EV → DL := fun x xs h => match x, xs with
  | .ref n, [y] => match dicAt h n with
    | some (t, kvs) => match dgetE t kvs y with
      | some o => .ok (o.getD .non) h
      | none => .no
    | none => .no
  | _, _ => .no
theorem m_get1 (hu : X.A.units + 1 < cLine) : Mtd X ct E "dict.get" mGet1 := ⟨fun x xs H Q => ∃ a y o, x = .ref a ∧ xs = [y] ∧ DGet H a y o ∧ Q (o.getD .non) H, by
  rintro pins s σ H x xs v us Q I rx r ⟨a, y, o, rfl, rfl, g, q⟩
  obtain rfl : v = Value.ref a := rx
  cases r with
  | @cons _ u _ _ ru rr =>
    cases rr
    exact d_get1 hu I g ru fun w' s' I' rw' => ⟨_, H, I', rw', q⟩, fun ρ H eh x a xs as Q hr hx hxs h => by
  unfold mGet1 at h
  split at h
  · rename_i n y
    split at h
    · rename_i t kvs e3
      split at h
      · rename_i o e4
        obtain ⟨p, uo, g1, g2, g3⟩ := dic_of hr e3
        obtain ⟨p', q1, rfl⟩ := vr_ref.mp hx
        rw [g1] at q1; cases q1
        obtain ⟨v, rfl, hv⟩ := vrs_one hxs
        obtain ⟨ov, k1, k2⟩ := dget_of g2 g3 e4 hv
        refine ⟨p, v, ov, rfl, rfl, k1, h ρ H _ (Ext.refl _ _ _) hr ?_⟩
        cases o with
        | none =>
          cases ov with
          | none => exact vr_non.mpr rfl
          | some _ => exact k2.elim
        | some x =>
          cases ov with
          | none => exact k2.elim
          | some _ => exact k2
      · exact h.elim
    · exact h.elim
  · exact h.elim⟩
theorem xe_get1 {apos cpos : Pos} (hu : X.A.units + 1 < cLine) (ho : PEd X ct E a da) (ha : PAd X ct E [e] dr)
    (hbase : attributeBase a "get" X.env (eval a X.env) = eval a X.env := by rfl)
    (hfew : ((backTo cpos (starEach [e] X.env)).all (fun x => !x.1) && (backToKw cpos (keywordEach [] X.env)).all (fun x => x.1.isSome)
      && decide ([e].length + ([] : List Keyword).length + (if ([] : List Keyword).isEmpty then 0 else 1) < 30)) = true := by rfl)
    (hline : (apos.endLine == cpos.line) = true := by rfl) (hs : starEach [e] X.env = (false, eval e X.env) :: starEach [] X.env := by rfl) (hplain : (backTo cpos (starEach [] X.env)).any (·.1) = false := by rfl) :
    PEd X ct E (.Call (.Attribute a "get" apos) [e] [] cpos) (dBMD mGet1 da dr) := by
  obtain ⟨r, m1, m2⟩ := m_get1 (X := X) (ct := ct) (E := E) hu
  obtain ⟨t, a1, a2⟩ := ho
  obtain ⟨u, b1, b2⟩ := ha
  exact ⟨_, pe_bm PySem.F.plainAttrs_dict PySem.F.slot_dict_get (by rfl) m1 a1 b1 hbase hfew hline hs hplain, snd_bmD m2 a2 b2⟩
theorem xt_chain {b c : Expr} {db dc : DE} {op op' : CmpOp} {f g : D2} (ho : Opd X ct E (compareOp op) f) (ho' : Opd X ct E (compareOp op') g) (ha : PEd X ct E a da) (hb : PEd X ct E b db) (hc : PEd X ct E c dc)
    (hm : lastMarks [op, op'] [b, c] = false := by with_unfolding_all rfl) : PTd X ct E (.Compare a [op, op'] [b, c] pos) (dB (dChain f g da db dc)) := by
  obtain ⟨r, h1, h2⟩ := ho
  obtain ⟨r', h1', h2'⟩ := ho'
  obtain ⟨ta, a1, a2⟩ := ha
  obtain ⟨tb, b1, b2⟩ := hb
  obtain ⟨tc, c1, c2⟩ := hc
  exact ⟨_, pt_chain h1 h1' a1 b1 c1 hm, snd_B (snd_chain h2 h2' a2 b2 c2)⟩
end
end EE
set_option Elab.async false
set_option linter.all false
set_option maxRecDepth 100000
set_option maxHeartbeats 1000000
namespace EE
open PySem PySem.Spec PyProof.Rows L2
section
variable {X : Cx} {pins : List (Addr × Obj)} {σ : L2.St} {H : Hp} {s : Shared}
theorem inv_xe {xe : Value → Shared → Prop} (I : Inv X pins σ H s) : Inv { X with xe := xe } pins σ H s :=
  ⟨⟨I.ok.mod, I.ok.kind, I.ok.glob, I.ok.blt, I.ok.above, I.ok.inj, I.ok.has, I.ok.cab, I.ok.hd, I.ok.frames, I.ok.stk, I.ok.exf, I.ok.bs, I.ok.bsz, I.ok.noex, I.ok.exfs, I.ok.funs, I.ok.frf⟩, I.os, I.bare, I.base, I.loc, I.cell, I.free, I.freeC, I.pin, I.hok, I.len⟩
theorem put_at {h : Heap} {C : Addr} {o0 o : Obj} (e : h.get? C = some o0) (hf : o.isFreed = false) : ∃ h' : Heap, h'.get? C = some o ∧ ∀ b, b ≠ C → h'.get? b = h.get? b :=
  ⟨h.update C fun _ => o, Heap.get?_update_self _ e hf, fun b hb => Heap.get?_update_other h _ (Ne.symm hb)⟩
theorem block_fails {scope : Scope} {ce : Env} {fp : List Addr} {xe : Value → Shared → Prop} {pinsB : List (Addr × Obj)} {σB : L2.St} {HB : Hp} {sB s' : Shared} {E : XK} {u : Value}
    (hs : X.stack = X.env :: X.outer) (hf : X.env.frame = some X.env.locals) (tk : TkE X E) (I : Inv X pins σ H s) (hfp : ∀ b ∈ fp, FpOk X pins H b)
    (cf : ce.frame = X.env.frame) (cl : ce.locals = s.heap.objs.size) (IB : Inv { X.blk s H scope ce fp with xe := xe } pinsB σB HB sB) (c : CX X.prog X.w X.stack HB sB E u s') :
    notedBy (model X.prog X.w) X.A ce (CompFails (model X.prog X.w) X.A X.xe ce) u s' := by
  have fl := c
  obtain ⟨a0, B0, H0, cls0, d0, rfl, fl, _⟩ := fl
  obtain ⟨a, B, sI, pinsI, σI, HI, cls, d, e, II, nb, up, sky, na, os, ag, w⟩ := XE.of_call (W := fun cls d _ H => E cls d H) IB (fun _ _ _ h => h) c
  cases e
  have nbl : ∀ b ∈ fp, (b ∈ X.ex ∨ X.s_0.heap.objs.size ≤ b) ∧ b ≠ X.env.locals ∧ (∀ x c, X.env.cells.lookup x = some c → c ≠ b) ∧ ∀ p ∈ X.pn ++ pins, p.1 ≠ b := fun b hb => ⟨(hfp b hb).2.2.2.1, (hfp b hb).2.1, (hfp b hb).2.2.2.2.1, (hfp b hb).2.2.2.2.2⟩
  have I7 : Inv X pins σ HI sI := I.call' (ch := fp) II.os II.base II.hok II.bare nbl
  have nC : HI ce.locals = none := II.free
  obtain ⟨m, hn, _⟩ := II.loc
  have hn : sI.heap.Ns ce.locals m := hn
  rw [cl] at nC hn
  have fC := I.fpOk (H' := HI) (Nat.le_refl _) nC
  obtain ⟨f0, f1, f2, f3, f4, f5⟩ := fC
  have hfr : X.A.frames = some (X.env :: X.outer) := by rw [I.ok.frames, hs]
  have sky : Sky B X.stack a0 (Zc cls d) ce.locals s'.heap := sky
  have up : sI.heap.UpToSlots s'.heap := up
  have notC : ∀ L ∈ frs X.stack, L ≠ s.heap.objs.size := fun L hL z => by
    rw [hs] at hL
    obtain ⟨en, he, q⟩ := List.mem_filterMap.mp hL
    rcases List.mem_cons.mp he with he | he
    · rw [he, hf] at q
      cases q
      exact f1 z.symm
    · exact f2 (z ▸ List.mem_filterMap.mpr ⟨en, he, q⟩)
  show wpAny _ _ (noteFrame (.ref a0) ce) _ _ s'
  rw [noteFrame_env _ cf]
  -- noted: the block goes, the exception goes on
  have fin : ∀ h1, HandSPX.HeldZ B (X.env :: X.outer) a0 (Zc cls d) X.env.locals h1 → s'.heap.UpToSlots h1 → CompFails (model X.prog X.w) X.A X.xe ce (.ref a0) { s' with heap := h1 } := fun h1 hh up1 => by
    have U := up.trans up1
    refine ⟨m, by rw [cl]; exact U.ns hn, fun h2 m2 hn2 hs2 => ?_⟩
    rw [cl] at hn2 hs2
    obtain ⟨oC, esC, epC, gC, dC, _⟩ := id hn
    obtain ⟨o2, es2, ep2, g2, d2, _⟩ := id hn2
    have nf : o2.isFreed = false := by
      obtain ⟨_, _, dt, _⟩ := o2
      have d2 : dt = _ := d2
      subst d2
      rfl
    have bC : B.get? s.heap.objs.size = some oC := nb _ _ gC fun z => notC _ z rfl
    obtain ⟨B2, p1, p2⟩ := put_at bC nf
    obtain ⟨hI2, q1, q2⟩ := put_at gC nf
    obtain ⟨k1, k2, k3, k4⟩ := hh
    have ane : a0 ≠ s.heap.objs.size := fun z => by rw [z, bC] at k2; cases k2
    have st2 : B2.StaysIn h2 := fun b o hb => by
      by_cases z : b = s.heap.objs.size
      · rw [z] at hb ⊢
        rw [p1] at hb
        rw [g2, hb]
      · rw [p2 b z] at hb
        exact (hs2.2 b z).trans (k1 b o hb)
    have a2 : B2.get? a0 = none := by rw [p2 a0 ane]; exact k2
    have ff : h2.FunFrames B2 (X.env :: X.outer) := by
      refine funFrames_none (Heap.FunFrames.sameBut hs2 hn2 k3) fun L hL => ?_
      have hL' : L ∈ frs X.stack := by rw [hs]; exact hL
      rw [p2 L (notC L hL')]
      exact (k3.mem hL).1
    have tr : HandSPX.TracedZ h2 B2 a0 (Zc cls d) (rawInt X.env.locals) := by
      obtain ⟨oe, vs, T, oT, ts, r1, r2, r3, r4, r5, r6, r7, r8, r9⟩ := k4
      have tne : T ≠ s.heap.objs.size := fun z => by rw [z, bC] at r5; cases r5
      exact ⟨oe, vs, T, oT, ts, (hs2.2 _ ane).trans r1, r2, r3, r4, (p2 T tne).trans r5, r6, (hs2.2 _ tne).trans r7, r8, r9⟩
    have t2 := tr
    obtain ⟨oe, vs, T, oT, ts, r1, r2, r3, r4, _⟩ := t2
    unfold PySem.passOn
    refine wpAny_bind (wpAny_field r1 r3 r4 ?_)
    rw [if_neg (show ¬ ((Value.ref T == Value.none) = true) from by simp), cf, hf]
    refine wpAny_bind (HandSPX.setFlight_anyZ st2 ff tr fun h3 j1 j2 j3 up3 => wpAny_throw (tk _ _ ?_))
    have upI : hI2.UpToSlots h2 := fun b o hb hnf => by
      by_cases z : b = s.heap.objs.size
      · rw [z] at hb ⊢
        rw [q1] at hb
        cases hb
        exact ⟨o2.slots, g2⟩
      · rw [q2 b z] at hb
        obtain ⟨sl, e1⟩ := U b o hb hnf
        exact ⟨sl, (hs2.2 b z).trans e1⟩
    refine ⟨a0, B2, { sI with heap := hI2, toks := sI.toks }, pins, σ, HI, cls, d, rfl, I7.turned (fun b o hb e1 => (q2 b hb).trans e1) f0 f1 f3 f4 f5, fun b o hb hF => ?_, upI.trans up3, .inr (.inr ?_), na, os, ag, w⟩
    · by_cases z : b = s.heap.objs.size
      · rw [z] at hb ⊢
        have hb : hI2.get? s.heap.objs.size = some o := hb
        rw [q1] at hb
        rw [p1, hb]
      · have hb : hI2.get? b = some o := hb
        rw [q2 b z] at hb
        rw [p2 b z]
        exact nb b o hb hF
    · rw [hs]
      exact ⟨j1, a2, j2, j3⟩
  have Zst : HandSPX.Steady (Zc cls d) := by exact HandSPX.steady_and HandSPX.steady_cls fun o f x => by rw [HandSPX.dict_mapFields]; exact x
  rw [hs] at sky
  rcases sky with ⟨hB, hn', hl, oe, vs, he, hz, hd, h1⟩ | fl' | hh
  · exact HandSPX.look_newZ Zst hfr hl hf he hB hn' hd h1 hz fin
  · exact HandSPX.looks_onZ Zst hfr hf fl' fin
  · exfalso
    obtain ⟨oe, vs, T, oT, ts, r1, r2, r3, r4, r5, r6, r7, r8, r9⟩ := fl.2.2.2
    obtain ⟨oe', vs', T', oT', ts', t1, t2, t3, t4, t5, t6, t7, t8, t9⟩ := hh.2.2.2
    rw [r1] at t1
    cases t1
    rw [r3] at t3
    cases t3
    rw [r4] at t4
    cases t4
    rw [r7] at t7
    cases t7
    rw [r8] at t8
    cases t8
    rw [r9] at t9
    cases t9
def Passes (X : Cx) (E : XK) : Prop := ∀ (pins : List (Addr × Obj)) (σ : L2.St) (H : Hp) (s : Shared) (u : Value) (s' : Shared), Inv X pins σ H s → CX X.prog X.w X.stack H s E u s' → X.xe u s'
theorem pe_lcX {elt tg iter : Expr} {ifs : List Expr} {scope : Scope} {own : List (Str × Nat)} {pos : Pos} {wi : TI} {g : TG} {tt : TT} {te : TE} {E : XK} (hs : X.stack = X.env :: X.outer) (hf : X.env.frame = some X.env.locals) (hc : X.calm = true) (hN : X.N.Nodup) (tk : TkE X E)
    (hi : PI X tg iter wi) (ok : BlkOk X.N X.env.scope scope own)
    (hg : ∀ (s : Shared) (H : Hp) (C : Addr) (cl : List (Str × Addr)) (fp : List Addr), PG (X.blk s H scope (compEnvC scope cl C X.env) fp) tg g)
    (ht : ∀ (s : Shared) (H : Hp) (C : Addr) (cl : List (Str × Addr)) (fp : List Addr), PTs (X.blk s H scope (compEnvC scope cl C X.env) fp) ifs tt)
    (he : ∀ (s : Shared) (H : Hp) (C : Addr) (cl : List (Str × Addr)) (fp : List Addr) (xe : Value → Shared → Prop), Passes { X.blk s H scope (compEnvC scope cl C X.env) fp with xe := xe } E → PE { X.blk s H scope (compEnvC scope cl C X.env) fp with xe := xe } elt te)
    (hsf : ∀ x, foldedSetIterable iter X.env x = pure x := by intro _; rfl) :
    PE X (.ListComp elt [⟨tg, iter, ifs, 0⟩] scope pos) (tLc wi g tt te (own.map (·.2))) := by
  refine ⟨fun pins s σ H Q I h => ?_⟩
  have cells : ∀ y ∈ scope.names, y.2 = .free → ∃ c, X.env.cells.lookup y.1 = some c := fun y hy e => (ok.free y hy e).elim (fun k => I.ok.has _ (.inl k)) fun k => I.ok.has _ (.inr k)
  rw [eval_ListComp]
  refine comprehension_at (use := none) rfl hsf (closure_ok cells) ok.kind (fun y hy e => by rw [ok.uniq y hy, e]) (thn (hi.run pins s σ H _ I h) fun xv s1 hx => thn hx fun itv s2 h2 => ?_)
  obtain ⟨it, fp, tn, J, H2, rfl, I2, T, t2, f2, q⟩ := h2
  refine wpAny_newObj_type (newEnv_comp ?_) (by show 0 ≤ sizeLine; decide)
  have low : ∀ b ∈ fp, b < s2.heap.objs.size := fun b hb => let ⟨_, e, _⟩ := T.obj _ _ t2 b hb; Heap.lt_size e
  have new2 : H2 s2.heap.objs.size = none := I2.hok.fresh (Nat.le_refl _)
  obtain ⟨W, ⟨m0, w0⟩, turn⟩ := q _ new2
  obtain ⟨s3, e3⟩ : ∃ s3 : Shared, s3 = { s2 with heap := s2.heap.push { cls := .type "list", data := .seq ([] : List Value).toArray } } := ⟨_, rfl⟩
  have up3 : ∀ b o, s2.heap.get? b = some o → s3.heap.get? b = some o := fun b o e => by rw [e3]; exact Heap.get?_push_of_some _ e
  have n3 : s3.heap.objs.size = s2.heap.objs.size + 1 := by rw [e3]; exact Heap.size_push ..
  have I3 : Inv X pins σ (upd H2 s2.heap.objs.size (.lst [])) s3 := by
    rw [e3]
    exact I2.laid (t' := s2.toks) (fun b o e => Heap.get?_push_of_some _ e) (Nat.le_refl _) ⟨Nat.zero_le _, [], 0, .nil, Heap.get?_push_size _ rfl⟩
  have ok3 : ∀ b ∈ fp, FpOk X pins (upd H2 s2.heap.objs.size (.lst [])) b ∧ b < s3.heap.objs.size := fun b hb => by
    have l := low b hb
    exact ⟨⟨by rw [upd_ne (Nat.ne_of_lt l)]; exact (f2 b hb).1, (f2 b hb).2⟩, by rw [n3]; exact Nat.lt_succ_of_lt l⟩
  have t3 : tn 0 s3.heap := T.keep _ _ _ t2 fun b _ o e => up3 b o e
  have I4 := block_start I3 ok hN ok3
  rw [← e3]
  show codeAny _ _ (.compStart (.ListComp elt [⟨tg, iter, ifs, 0⟩] scope pos) 0 (.ref it) (.ref s2.heap.objs.size) (compEnvC scope (cellsFrom (s3.heap.objs.size + 1) scope.names (cloFrom X.env.cells scope.names [])) s3.heap.objs.size X.env)) (compEnds (model X.prog X.w) X.A X.xe none (EP X pins σ Q) (.ref s2.heap.objs.size) (compEnvC scope (cellsFrom (s3.heap.objs.size + 1) scope.names (cloFrom X.env.cells scope.names [])) s3.heap.objs.size X.env)) { s3 with heap := pushCells (s3.heap.push { cls := .type "dict", data := .dict #[] }) scope.names }
  have pg := hg s3 (upd H2 s2.heap.objs.size (.lst [])) s3.heap.objs.size (cellsFrom (s3.heap.objs.size + 1) scope.names (cloFrom X.env.cells scope.names [])) fp
  have pt := ht s3 (upd H2 s2.heap.objs.size (.lst [])) s3.heap.objs.size (cellsFrom (s3.heap.objs.size + 1) scope.names (cloFrom X.env.cells scope.names [])) fp
  have pe := he s3 (upd H2 s2.heap.objs.size (.lst [])) s3.heap.objs.size (cellsFrom (s3.heap.objs.size + 1) scope.names (cloFrom X.env.cells scope.names [])) fp
  have loc_ce : (compEnvC scope (cellsFrom (s3.heap.objs.size + 1) scope.names (cloFrom X.env.cells scope.names [])) s3.heap.objs.size X.env).locals = s3.heap.objs.size := rfl
  have frm_ce : (compEnvC scope (cellsFrom (s3.heap.objs.size + 1) scope.names (cloFrom X.env.cells scope.names [])) s3.heap.objs.size X.env).frame = X.env.frame := rfl
  generalize (compEnvC scope (cellsFrom (s3.heap.objs.size + 1) scope.names (cloFrom X.env.cells scope.names [])) s3.heap.objs.size X.env) = ce at *
  obtain ⟨s4, e4⟩ : ∃ s4 : Shared, s4 = { s3 with heap := pushCells (s3.heap.push { cls := .type "dict", data := .dict #[] }) scope.names } := ⟨_, rfl⟩
  rw [← e4] at I4 ⊢
  have t4 : tn 0 s4.heap := T.keep _ _ _ t3 fun b _ o e => by rw [e4]; exact pushCells_keeps _ _ _ _ (Heap.get?_push_of_some _ e)
  have none3 : ∀ b ∈ fp, (upd H2 s2.heap.objs.size (.lst [])) b = none := fun b hb => (ok3 b hb).1.1
  generalize (upd H2 s2.heap.objs.size (.lst [])) = H3 at *
  generalize s2.heap.objs.size = D at *
  -- the walk's own places, within the block
  have own_fp : ∀ {σ' : L2.St} {H' : Hp} {s' : Shared}, Inv (X.blk s3 H3 scope ce fp) [] σ' H' s' → (∀ b ∈ fp, H' b = none) → ∀ b ∈ fp, FpOk (X.blk s3 H3 scope ce fp) [] H' b := fun {σ' H' s'} I' nn b hb =>
    ⟨nn b hb, (I'.ok.exf b hb).1, I'.ok.exfs b hb, .inl hb, fun x c e => (I'.ok.exf b hb).2 x c e, fun p hp => nomatch hp⟩
  have loop : codeAny (model X.prog X.w) X.A (.compLoop (.ListComp elt [⟨tg, iter, ifs, 0⟩] scope pos) 0 (.ref it) (.ref D) ce) (compEnds (model X.prog X.w) X.A X.xe none (EP X pins σ Q) (.ref D) ce) s4 := by
    refine compLoop_any (fun n s' => ∃ i H', Inv (X.blk s3 H3 scope ce fp) [] (wipe σ (own.map (·.2))) H' s' ∧ tn i s'.heap ∧ (∀ b ∈ fp, H' b = none) ∧ W i n H') ?_ m0 ⟨0, H3, I4, t4, none3, w0⟩
    rintro n s5 ⟨i, H5, I5, t5, n5, w5⟩
    rcases turn i n H5 w5 with ⟨ended, atEnd⟩ | ⟨more, Nx, reach, step⟩
    · refine thnF (T.done (X.blk s3 H3 scope ce fp) rfl rfl rfl hc i [] s5 _ H5 (fun _ _ => False) I5 (own_fp I5 n5) t5 ended) fun r s6 ⟨hr, I6⟩ => ?_
      subst hr
      have I7 : Inv X pins σ H5 s6 := I3.call' (ch := fp) I6.os I6.base I6.hok I6.bare fun b hb => ⟨(ok3 b hb).1.2.2.2.1, (ok3 b hb).1.2.1, (ok3 b hb).1.2.2.2.2.1, (ok3 b hb).1.2.2.2.2.2⟩
      have nC : H5 ce.locals = none := I6.free
      obtain ⟨mC, hnC, _⟩ := I6.loc
      have hnC : s6.heap.Ns ce.locals mC := hnC
      have fC := I3.fpOk (H' := H5) (b := ce.locals) (by rw [loc_ce]; exact Nat.le_refl _) nC
      obtain ⟨g0, g1, g2, g3, g4, g5⟩ := fC
      exact ⟨mC, hnC, fun h' sb => ⟨.ref D, H5, I7.turned (t' := s6.toks) (fun b o hb e => (sb.2 b hb).trans e) g0 g1 g3 g4 g5, rfl, atEnd⟩⟩
    · refine thnF (T.item (X.blk s3 H3 scope ce fp) rfl rfl rfl hc i [] s5 _ H5 (fun _ _ => False) I5 (own_fp I5 n5) t5 more) fun r s6 ⟨u, hr, h6⟩ => ?_
      subst hr
      refine thnF h6 fun _ s7 ⟨x, H7, I7, r7, y7, t7, n7⟩ => ?_
      have I7' := I7.pinned (own_fp I7 n7) (T.obj _ _ t7)
      refine thnF (pg.run _ s7 _ H7 x u _ I7' r7 (step x H7 y7)) fun _ s8 ⟨σ8, H8, I8, w8, q8⟩ => ?_
      refine thnF (pt.run _ s8 σ8 H8 _ I8 q8) fun yes s9 ⟨H9, I9, due⟩ => ?_
      have next : ∀ {s' : Shared} {H' : Hp}, Inv (X.blk s3 H3 scope ce fp) ([] ++ pinsAt fp s7.heap) σ8 H' s' → Nx H' → ∃ m, m < n ∧ ∃ i H', Inv (X.blk s3 H3 scope ce fp) [] (wipe σ (own.map (·.2))) H' s' ∧ tn i s'.heap ∧ (∀ b ∈ fp, H' b = none) ∧ W i m H' := fun {s' H'} I' nx => by
        obtain ⟨m', less, w'⟩ := reach H' nx
        have held : ∀ c ∈ fp, ∀ ob, s7.heap.get? c = some ob → s'.heap.get? c = some ob ∧ H' c = none := fun c hc ob e => by
          have q := I'.pin (c, ob) (by simp [mem_pinsAt hc e])
          exact ⟨q.1, q.2.1⟩
        refine ⟨m', less, i + 1, H', (I'.unpinned (pins := [])).weak (by rw [← w8, wipe_length]) (fun j v e => by rw [← w8] at e; exact (wipe_some e).1), T.keep _ _ _ t7 fun b hb o e => (held b hb o e).1, fun b hb => ?_, w'⟩
        obtain ⟨o, e, _⟩ := T.obj _ _ t7 b hb
        exact (held b hb o e).2
      cases yes with
      | false =>
        simp only [Bool.false_eq_true, if_false] at due ⊢
        exact next I9 due
      | true =>
        simp only [if_true] at due ⊢
        have px := pe (notedBy (model X.prog X.w) X.A ce (CompFails (model X.prog X.w) X.A X.xe ce)) fun pinsB σB HB sB u s' IB c => block_fails hs hf tk I3 (fun b hb => (ok3 b hb).1) frm_ce loc_ce IB c
        refine wpAny_mono (px.run _ s9 σ8 H9 _ (inv_xe I9) due) (fun z s10 ⟨yv, H10, I10, r10, acc, hD, hz, nx⟩ => ?_) fun _ _ z => z
        exact app_ok (X := X.blk s3 H3 scope ce fp) (inv_xe (xe := fun _ _ => False) I10) hD hz r10 fun s11 I11 => next I11 nx
  exact codeAny_compStart_list loop (T.self X.A 0 _ _ _ t4 loop)
end
section
variable {X : Cx} {ct : Nat → Addr × List Str} {E : XK} {e : Expr} {es : List Expr} {pos p : Pos} {dr : DA}
theorem xe_callP {k : Nat} {x : Str} {fn : DL} (F : FnDX X.prog X.w X.K X.mg X.base ct k x fn) (hr : Room k X.A) (px : Passes X E) (hg : Gl X x) (ha : PAd X ct E (e :: es) dr) (hdb : (x == ("__debug__" : Str)) = false := by decide)
    (he : starEach (e :: es) X.env = (false, eval e X.env) :: starEach es X.env := by rfl) (hpl : (backTo pos (starEach es X.env)).any (·.1) = false := by rfl) : PEd X ct E (.Call (.Name x p) (e :: es) [] pos) (dCallX fn dr) := by
  obtain ⟨f, fd, ps, h1, hm, hk, hb⟩ := F
  obtain ⟨ta, a1, a2⟩ := ha
  exact ⟨_, pe_call h1 hr hg hm hk hb .nil px a1 hdb he hpl, fun ρ σ H es eh Q rel h => a2.bind rel h fun ρ1 H1 xs eh1 us e1 rel1 v1 h1 => ⟨ρ1, xs, eh1, by rw [List.append_nil]; exact v1, rel1.hr, h1⟩⟩
def InBlkX (X : Cx) (scope : Scope) (E : XK) (f : Cx → Prop) : Prop := ∀ (s : Shared) (H : Hp) (C : Addr) (cl : List (Str × Addr)) (fp : List Addr) (xe : Value → Shared → Prop), Passes { X.blk s H scope (compEnvC scope cl C X.env) fp with xe := xe } E → f { X.blk s H scope (compEnvC scope cl C X.env) fp with xe := xe }
theorem xe_lcX {elt tg iter : Expr} {scope : Scope} {di : DI} {dg : DG} {de : DE} (own : List (Str × Nat)) {g : TG} (hs : X.stack = X.env :: X.outer) (hf : X.env.frame = some X.env.locals) (hc : X.calm = true) (hN : X.N.Nodup) (tk : TkE X E) (hi : PId X ct E tg iter di)
    (he : InBlkX X scope E fun Y => PEd Y ct E elt de) (hg : InBlk X scope fun Y => PG Y tg g) (hg2 : SndG ⟨X.K, ct⟩ E g dg) (ho : OnlyIn g (own.map (·.2)))
    (ok : blkC X.N X.env.scope scope own = true := by kernel_rfl) (hsf : ∀ x, foldedSetIterable iter X.env x = pure x := by intro _; rfl) :
    PEd X ct E (.ListComp elt [⟨tg, iter, [], 0⟩] scope pos) (dLc di dg dYes de (own.map (·.2))) := by
  obtain ⟨wi, i1, i2⟩ := hi
  exact ⟨_, pe_lcX (own := own) hs hf hc hN tk i1 (blkOk_by ok) hg (fun _ _ _ _ _ => pts_nil) (fun s H C cl fp xe px => (he s H C cl fp xe px).can) hsf, snd_lc i2 hg2 ho snd_yes snd_tE⟩
end
end EE
set_option Elab.async false
set_option linter.all false
set_option maxRecDepth 100000
set_option maxHeartbeats 1000000
namespace EE
open PySem L2
def Tri {α : Type} (r : Res α) (Q : α → EH → Prop) : Prop := match r with
  | .ok v h => Q v h
  | .er _ _ => False
  | .no => False
@[simp] theorem tri_ok {α : Type} (v : α) (h : EH) (Q : α → EH → Prop) : Tri (.ok v h) Q ↔ Q v h := Iff.rfl
@[simp] theorem tri_no {α : Type} (Q : α → EH → Prop) : Tri (.no) Q ↔ False := Iff.rfl
@[simp] theorem tri_er {α : Type} (x : Exn) (h : EH) (Q : α → EH → Prop) : Tri (.er x h) Q ↔ False := Iff.rfl
@[simp] theorem tri_noer {α : Type} (r : Res α) (Q : α → EH → Prop) : Tri r.noer Q ↔ Tri r Q := by cases r <;> rfl
theorem tri_bind {α β : Type} (r : Res α) (k : α → EH → Res β) (Q : β → EH → Prop) : Tri (r.bind k) Q ↔ Tri r (fun v h => Tri (k v h) Q) := by cases r <;> rfl
theorem Tri.mono {α : Type} {r : Res α} {Q Q' : α → EH → Prop} (h : Tri r Q) (hq : ∀ v h, Q v h → Q' v h) : Tri r Q' := by
  cases r with
  | ok v h' => exact hq v h' h
  | er _ _ => exact h
  | no => exact h
theorem Tri.bind {α β : Type} {r : Res α} {k : α → EH → Res β} {Q : β → EH → Prop} {P : α → EH → Prop} (h : Tri r P) (hq : ∀ v h, P v h → Tri (k v h) Q) : Tri (r.bind k) Q := by
  rw [tri_bind]
  exact h.mono hq
theorem Tri.ex {α : Type} {r : Res α} {Q : α → EH → Prop} (h : Tri r Q) : ∃ v h', r = .ok v h' ∧ Q v h' := by
  cases r with
  | ok v h' => exact ⟨v, h', rfl, h⟩
  | er _ _ => exact h.elim
  | no => exact h.elim
section
variable (es : ES) (h : EH)
def gV (o : Option (Option EV)) (h : EH) : Res EV := match o with
  | some (some v) => .ok v h
  | _ => .no
@[simp] theorem gV_some (v : EV) : gV (some (some v)) h = .ok v h := rfl
@[simp] theorem ap_var (i : Nat) : dVar i es h = gV es[i]? h := rfl
@[simp] theorem ap_c (v : EV) : dC v es h = .ok v h := rfl
def kOp2 (f : D2) (x : EV) : EV → EH → Res EV := fun y h => f x y h
def kOp (f : D2) (b : DE) (es : ES) : EV → EH → Res EV := fun x h => (b es h).bind (kOp2 f x)
@[simp] theorem ap_op (f : D2) (a b : DE) : dOp f a b es h = (a es h).bind (kOp f b es) := rfl
@[simp] theorem ap_kOp (f : D2) (b : DE) (x : EV) : kOp f b es x h = (b es h).bind (kOp2 f x) := rfl
@[simp] theorem ap_kOp2 (f : D2) (x y : EV) : kOp2 f x y h = f x y h := rfl
@[simp] theorem ap_un (f : D1) (a : DE) : dUn f a es h = (a es h).bind f := rfl
@[simp] theorem ap_nil : dNil es h = .ok [] h := rfl
def kCons2 (x : EV) : List EV → EH → Res (List EV) := fun xs h => .ok (x :: xs) h
def kCons (r : DA) (es : ES) : EV → EH → Res (List EV) := fun x h => (r es h).bind (kCons2 x)
@[simp] theorem ap_cons (a : DE) (r : DA) : dCons a r es h = (a es h).bind (kCons r es) := rfl
@[simp] theorem ap_kCons (r : DA) (x : EV) : kCons r es x h = (r es h).bind (kCons2 x) := rfl
@[simp] theorem ap_kCons2 (x : EV) (xs : List EV) : kCons2 x xs h = .ok (x :: xs) h := rfl
@[simp] theorem ap_cb (f : DL) (a : DA) : dCB f a es h = (a es h).bind f := rfl
def kCall (f : DL) : List EV → EH → Res EV := fun xs h => (f xs h).noer
@[simp] theorem ap_call (f : DL) (a : DA) : dCall f a es h = (a es h).bind (kCall f) := rfl
@[simp] theorem ap_kCall (f : DL) (xs : List EV) : kCall f xs h = (f xs h).noer := rfl
def kTup : List EV → EH → Res EV := fun xs h => if xs.length ≤ 100000 then .ok (.tup xs) h else .no
@[simp] theorem ap_tup (a : DA) : dTup a es h = (a es h).bind kTup := rfl
@[simp] theorem ap_kTup (xs : List EV) : kTup xs h = if xs.length ≤ 100000 then .ok (.tup xs) h else .no := rfl
def kLst : List EV → EH → Res EV := fun xs h => if xs.length ≤ 100000 then .ok (.ref h.length) (h ++ [.lst xs]) else .no
@[simp] theorem ap_lst (a : DA) : dLst a es h = (a es h).bind kLst := rfl
@[simp] theorem ap_kLst (xs : List EV) : kLst xs h = if xs.length ≤ 100000 then .ok (.ref h.length) (h ++ [.lst xs]) else .no := rfl
def kB : EV → EH → Res Bool := fun x h => match x with
  | .bl b => .ok b h
  | _ => .no
@[simp] theorem ap_B (a : DE) : dB a es h = (a es h).bind kB := rfl
@[simp] theorem ap_kB (b : Bool) : kB (.bl b) h = .ok b h := rfl
def kAnd (b : DT) (es : ES) : Bool → EH → Res Bool := fun c h => if c = true then b es h else .ok false h
@[simp] theorem ap_and (a b : DT) : dAnd a b es h = (a es h).bind (kAnd b es) := rfl
@[simp] theorem ap_kAnd (b : DT) (c : Bool) : kAnd b es c h = if c = true then b es h else .ok false h := rfl
def kOr (b : DT) (es : ES) : Bool → EH → Res Bool := fun c h => if c = true then .ok true h else b es h
@[simp] theorem ap_or (a b : DT) : dOr a b es h = (a es h).bind (kOr b es) := rfl
@[simp] theorem ap_kOr (b : DT) (c : Bool) : kOr b es c h = if c = true then .ok true h else b es h := rfl
def kNot : Bool → EH → Res Bool := fun c h => .ok (!c) h
@[simp] theorem ap_not (a : DT) : dNot a es h = (a es h).bind kNot := rfl
@[simp] theorem ap_kNot (c : Bool) : kNot c h = .ok (!c) h := rfl
def kAndV (b : DE) (es : ES) : EV → EH → Res EV := fun x h => match x with
  | .bl c => if c = true then b es h else .ok (.bl false) h
  | _ => .no
@[simp] theorem ap_andV (a b : DE) : dAndV a b es h = (a es h).bind (kAndV b es) := rfl
@[simp] theorem ap_kAndV (b : DE) (c : Bool) : kAndV b es (.bl c) h = if c = true then b es h else .ok (.bl false) h := rfl
def kOrV (b : DE) (es : ES) : EV → EH → Res EV := fun x h => match x with
  | .bl c => if c = true then .ok (.bl true) h else b es h
  | _ => .no
@[simp] theorem ap_orV (a b : DE) : dOrV a b es h = (a es h).bind (kOrV b es) := rfl
@[simp] theorem ap_kOrV (b : DE) (c : Bool) : kOrV b es (.bl c) h = if c = true then .ok (.bl true) h else b es h := rfl
def kNotV : EV → EH → Res EV := fun x h => match x with
  | .bl c => .ok (.bl (!c)) h
  | _ => .no
@[simp] theorem ap_notV (a : DE) : dNotV a es h = (a es h).bind kNotV := rfl
@[simp] theorem ap_kNotV (c : Bool) : kNotV (.bl c) h = .ok (.bl (!c)) h := rfl
def kIf (a b : DE) (es : ES) : Bool → EH → Res EV := fun c h => if c = true then a es h else b es h
@[simp] theorem ap_if (t : DT) (a b : DE) : dIf t a b es h = (t es h).bind (kIf a b es) := rfl
@[simp] theorem ap_kIf (a b : DE) (c : Bool) : kIf a b es c h = if c = true then a es h else b es h := rfl
def kCh3 (g : D2) (y : EV) : EV → EH → Res EV := fun w h => g y w h
def kCh2 (g : D2) (c : DE) (es : ES) (y : EV) : EV → EH → Res EV := fun z h => match z with
  | .bl k => if k = true then (c es h).bind (kCh3 g y) else .ok (.bl false) h
  | _ => .no
def kCh1 (f g : D2) (c : DE) (es : ES) (x : EV) : EV → EH → Res EV := fun y h => (f x y h).bind (kCh2 g c es y)
def kCh (f g : D2) (b c : DE) (es : ES) : EV → EH → Res EV := fun x h => (b es h).bind (kCh1 f g c es x)
@[simp] theorem ap_chain (f g : D2) (a b c : DE) : dChain f g a b c es h = (a es h).bind (kCh f g b c es) := rfl
@[simp] theorem ap_kCh (f g : D2) (b c : DE) (x : EV) : kCh f g b c es x h = (b es h).bind (kCh1 f g c es x) := rfl
@[simp] theorem ap_kCh1 (f g : D2) (c : DE) (x y : EV) : kCh1 f g c es x y h = (f x y h).bind (kCh2 g c es y) := rfl
@[simp] theorem ap_kCh2 (g : D2) (c : DE) (y : EV) (k : Bool) : kCh2 g c es y (.bl k) h = if k = true then (c es h).bind (kCh3 g y) else .ok (.bl false) h := rfl
@[simp] theorem ap_kCh3 (g : D2) (y w : EV) : kCh3 g y w h = g y w h := rfl
def kIsi (c : Ty) : EV → EH → Res EV := fun x h => match tyOf h x with
  | some t => .ok (.bl (t.isa c)) h
  | none => .no
@[simp] theorem ap_isi (c : Ty) (a : DE) : fIsi c a es h = (a es h).bind (kIsi c) := rfl
def kIsi2 (c c' : Ty) : EV → EH → Res EV := fun x h => match tyOf h x with
  | some t => .ok (.bl (t.isa c || t.isa c')) h
  | none => .no
@[simp] theorem ap_isi2 (c c' : Ty) (a : DE) : fIsi2 c c' a es h = (a es h).bind (kIsi2 c c') := rfl
@[simp] theorem kIsi_int (c : Ty) (i : Int) : kIsi c (.int i) h = .ok (.bl (Ty.isa .int_ c)) h := rfl
@[simp] theorem kIsi_bl (c : Ty) (i : Bool) : kIsi c (.bl i) h = .ok (.bl (Ty.isa .bool_ c)) h := rfl
@[simp] theorem kIsi_str (c : Ty) (i : Str) : kIsi c (.str i) h = .ok (.bl (Ty.isa .str_ c)) h := rfl
@[simp] theorem kIsi_non (c : Ty) : kIsi c .non h = .ok (.bl (Ty.isa .none_ c)) h := rfl
@[simp] theorem kIsi_tup (c : Ty) (xs : List EV) : kIsi c (.tup xs) h = .ok (.bl (Ty.isa .tuple_ c)) h := rfl
@[simp] theorem kIsi2_int (c c' : Ty) (i : Int) : kIsi2 c c' (.int i) h = .ok (.bl (Ty.isa .int_ c || Ty.isa .int_ c')) h := rfl
@[simp] theorem kIsi2_bl (c c' : Ty) (i : Bool) : kIsi2 c c' (.bl i) h = .ok (.bl (Ty.isa .bool_ c || Ty.isa .bool_ c')) h := rfl
@[simp] theorem kIsi2_str (c c' : Ty) (i : Str) : kIsi2 c c' (.str i) h = .ok (.bl (Ty.isa .str_ c || Ty.isa .str_ c')) h := rfl
@[simp] theorem kIsi2_non (c c' : Ty) : kIsi2 c c' .non h = .ok (.bl (Ty.isa .none_ c || Ty.isa .none_ c')) h := rfl
@[simp] theorem kIsi2_tup (c c' : Ty) (xs : List EV) : kIsi2 c c' (.tup xs) h = .ok (.bl (Ty.isa .tuple_ c || Ty.isa .tuple_ c')) h := rfl
theorem kIsi_lst {h : EH} (c : Ty) {n : Nat} {xs : List EV} (e : lstAt h n = some xs) : kIsi c (.ref n) h = .ok (.bl (Ty.isa .list_ c)) h := by
  unfold lstAt at e
  unfold kIsi
  simp only [tyOf]
  split at e <;> simp_all
theorem kIsi2_lst {h : EH} (c c' : Ty) {n : Nat} {xs : List EV} (e : lstAt h n = some xs) : kIsi2 c c' (.ref n) h = .ok (.bl (Ty.isa .list_ c || Ty.isa .list_ c')) h := by
  unfold lstAt at e
  unfold kIsi2
  simp only [tyOf]
  split at e <;> simp_all
@[simp] theorem ap_next : dNext es h = .ok (.nx es) h := rfl
def kSeq (b : DS) : Flw → EH → Res Flw := fun f h1 => match f with
  | .nx es1 => b es1 h1
  | .rt v => .ok (.rt v) h1
  | .bk e => .ok (.bk e) h1
  | .ct e => .ok (.ct e) h1
@[simp] theorem ap_seq (a b : DS) : dSeq a b es h = (a es h).bind (kSeq b) := rfl
@[simp] theorem kSeq_nx (b : DS) : kSeq b (.nx es) h = b es h := rfl
@[simp] theorem kSeq_rt (b : DS) (v : EV) : kSeq b (.rt v) h = .ok (.rt v) h := rfl
@[simp] theorem kSeq_bk (b : DS) : kSeq b (.bk es) h = .ok (.bk es) h := rfl
@[simp] theorem kSeq_ct (b : DS) : kSeq b (.ct es) h = .ok (.ct es) h := rfl
def kIfS (a b : DS) (es : ES) : Bool → EH → Res Flw := fun c h => if c = true then a es h else b es h
@[simp] theorem ap_ifS (t : DT) (a b : DS) : dIfS t a b es h = (t es h).bind (kIfS a b es) := rfl
@[simp] theorem ap_kIfS (a b : DS) (c : Bool) : kIfS a b es c h = if c = true then a es h else b es h := rfl
def kRet : EV → EH → Res Flw := fun x h => .ok (.rt x) h
@[simp] theorem ap_ret (a : DE) : dRet a es h = (a es h).bind kRet := rfl
@[simp] theorem ap_kRet (x : EV) : kRet x h = .ok (.rt x) h := rfl
@[simp] theorem ap_retN : dRetN es h = .ok (.rt .non) h := rfl
def kDrop (es : ES) : EV → EH → Res Flw := fun _ h => .ok (.nx es) h
@[simp] theorem ap_drop (a : DE) : dDrop a es h = (a es h).bind (kDrop es) := rfl
@[simp] theorem ap_kDrop (x : EV) : kDrop es x h = .ok (.nx es) h := rfl
@[simp] theorem ap_break : dBreak es h = .ok (.bk es) h := rfl
@[simp] theorem ap_cont : dCont es h = .ok (.ct es) h := rfl
@[simp] theorem ap_name (i : Nat) (x : EV) : dName i x es h = .ok (es.set i (some x)) h := rfl
@[simp] theorem ap_gnil : dGNil [] es h = .ok es h := rfl
def kG (r : DGs) (xs : List EV) : ES → EH → Res ES := fun es h => r xs es h
@[simp] theorem ap_gcons (g : DG) (r : DGs) (x : EV) (xs : List EV) : dGCons g r (x :: xs) es h = (g x es h).bind (kG r xs) := rfl
@[simp] theorem ap_kG (r : DGs) (xs : List EV) : kG r xs es h = r xs es h := rfl
@[simp] theorem ap_gtup (n : Nat) (r : DGs) (xs : List EV) : dGTup n r (.tup xs) es h = if xs.length = n then r xs es h else .no := rfl
def kGS3 (es : ES) : Unit → EH → Res ES := fun _ h => .ok es h
def kGS2 (f : DSet) (x o : EV) (es : ES) : EV → EH → Res ES := fun i h => (f o i x h).bind (kGS3 es)
def kGS (b : DE) (f : DSet) (x : EV) (es : ES) : EV → EH → Res ES := fun o h => (b es h).bind (kGS2 f x o es)
@[simp] theorem ap_gsub (a b : DE) (f : DSet) (x : EV) : dGSub a b f x es h = (a es h).bind (kGS b f x es) := rfl
@[simp] theorem ap_kGS (b : DE) (f : DSet) (x o : EV) : kGS b f x es o h = (b es h).bind (kGS2 f x o es) := rfl
@[simp] theorem ap_kGS2 (f : DSet) (x o i : EV) : kGS2 f x o es i h = (f o i x h).bind (kGS3 es) := rfl
@[simp] theorem ap_kGS3 : kGS3 es () h = .ok es h := rfl
def kAsg2 : ES → EH → Res Flw := fun es h => .ok (.nx es) h
def kAsg (g : DG) (es : ES) : EV → EH → Res Flw := fun x h => (g x es h).bind kAsg2
@[simp] theorem ap_asg (a : DE) (g : DG) : dAsg a g es h = (a es h).bind (kAsg g es) := rfl
@[simp] theorem ap_kAsg (g : DG) (x : EV) : kAsg g es x h = (g x es h).bind kAsg2 := rfl
@[simp] theorem ap_kAsg2 : kAsg2 es h = .ok (.nx es) h := rfl
def kPar (i j : Nat) (es : ES) : List EV → EH → Res Flw := fun xs h => match xs with
  | [x, y] => .ok (.nx ((es.set i (some x)).set j (some y))) h
  | _ => .no
@[simp] theorem ap_par (i j : Nat) (a : DA) : dPar i j a es h = (a es h).bind (kPar i j es) := rfl
@[simp] theorem ap_kPar (i j : Nat) (x y : EV) : kPar i j es [x, y] h = .ok (.nx ((es.set i (some x)).set j (some y))) h := rfl
def kBM2 (f : EV → DL) (x : EV) : List EV → EH → Res EV := fun xs h => f x xs h
def kBM (f : EV → DL) (a : DA) (es : ES) : EV → EH → Res EV := fun x h => match x with
  | .ref n => match lstAt h n with
    | some _ => (a es h).bind (kBM2 f x)
    | none => .no
  | _ => .no
@[simp] theorem ap_bm (f : EV → DL) (o : DE) (a : DA) : dBM f o a es h = (o es h).bind (kBM f a es) := rfl
theorem kBM_ref {h : EH} (f : EV → DL) (a : DA) {n : Nat} {xs : List EV} (e : lstAt h n = some xs) : kBM f a es (.ref n) h = (a es h).bind (kBM2 f (.ref n)) := by
  simp [kBM, e]
@[simp] theorem ap_kBM2 (f : EV → DL) (x : EV) (xs : List EV) : kBM2 f x xs h = f x xs h := rfl
def kItL : EV → EH → Res Wlk := fun x h => match x with
  | .ref n => match lstAt h n with
    | some _ => .ok ⟨some n, [], fun _ x => x⟩ h
    | none => .no
  | _ => .no
@[simp] theorem ap_itL (a : DE) : dItL a es h = (a es h).bind kItL := by
  rfl
theorem kItL_ref {h : EH} {n : Nat} {xs : List EV} (e : lstAt h n = some xs) : kItL (.ref n) h = .ok ⟨some n, [], fun _ x => x⟩ h := by
  simp [kItL, e]
def kItT : EV → EH → Res Wlk := fun x h => match x with
  | .tup xs => .ok ⟨none, xs, fun _ x => x⟩ h
  | _ => .no
@[simp] theorem ap_itT (a : DE) : dItT a es h = (a es h).bind kItT := rfl
@[simp] theorem ap_kItT (xs : List EV) : kItT (.tup xs) h = .ok ⟨none, xs, fun _ x => x⟩ h := rfl
def kItR1 : List EV → EH → Res Wlk := fun xs h => match xs with
  | [.int n] => if decide (-100000 ≤ n) && decide (n ≤ 100000) = true then .ok ⟨none, rng 0 n.toNat, fun _ x => x⟩ h else .no
  | _ => .no
@[simp] theorem ap_itR1 (a : DA) : dItR1 a es h = (a es h).bind kItR1 := rfl
theorem ap_kItR1 (n : Int) (h1 : -100000 ≤ n) (h2 : n ≤ 100000) : kItR1 [.int n] h = .ok ⟨none, rng 0 n.toNat, fun _ x => x⟩ h := by
  simp [kItR1, h1, h2]
def kItR2 : List EV → EH → Res Wlk := fun xs h => match xs with
  | [.int lo, .int n] => if decide (-100000 ≤ n) && decide (n ≤ 100000) && decide (-100000 ≤ lo) && decide (lo ≤ 100000) = true then .ok ⟨none, rng lo (n - lo).toNat, fun _ x => x⟩ h else .no
  | _ => .no
@[simp] theorem ap_itR2 (a : DA) : dItR2 a es h = (a es h).bind kItR2 := rfl
theorem ap_kItR2 (lo n : Int) (h1 : -100000 ≤ n) (h2 : n ≤ 100000) (h3 : -100000 ≤ lo) (h4 : lo ≤ 100000) : kItR2 [.int lo, .int n] h = .ok ⟨none, rng lo (n - lo).toNat, fun _ x => x⟩ h := by
  simp [kItR2, h1, h2, h3, h4]
def kFor (g : DG) (b : DS) (es : ES) : Wlk → EH → Res Flw := fun it h1 => match it.cur h1 with
  | none => .no
  | some xs => forGo it g b (xs.length + 1) 0 es h1
@[simp] theorem ap_for (di : DI) (g : DG) (b : DS) : dFor di g b es h = (di es h).bind (kFor g b es) := rfl
def kLc2 : List EV → EH → Res EV := fun ys h2 => .ok (.ref h2.length) (h2 ++ [.lst ys])
@[simp] theorem ap_kLc2 (ys : List EV) : kLc2 ys h = .ok (.ref h.length) (h ++ [.lst ys]) := rfl
def kLc (g : DG) (t : DT) (e : DE) (vs : List Nat) (es : ES) : Wlk → EH → Res EV := fun it h1 => match it.cur h1 with
  | none => .no
  | some xs => (lcGo it g t e vs (xs.length + 1) 0 [] es h1).bind kLc2
@[simp] theorem ap_lc (di : DI) (g : DG) (t : DT) (e : DE) (vs : List Nat) : dLc di g t e vs es h = (di es h).bind (kLc g t e vs es) := rfl
@[simp] theorem ap_yes : dYes es h = .ok true h := rfl
def kPart : EV → EH → Res (Option Int) := fun x h1 => match x with
    | .int i => .ok (some i) h1
    | _ => .no
@[simp] theorem ap_part0 : dPart none es h = .ok none h := rfl
@[simp] theorem ap_part (d : DE) : dPart (some d) es h = (d es h).bind kPart := rfl
@[simp] theorem ap_kPart (i : Int) : kPart (.int i) h = .ok (some i) h := rfl
def kSl3 (f : EV → Option Int → Option Int → EH → Res EV) (x : EV) (l : Option Int) : Option Int → EH → Res EV := fun u h => f x l u h
def kSl2 (f : EV → Option Int → Option Int → EH → Res EV) (hi : ES → EH → Res (Option Int)) (es : ES) (x : EV) : Option Int → EH → Res EV := fun l h => (hi es h).bind (kSl3 f x l)
def kSl (f : EV → Option Int → Option Int → EH → Res EV) (lo hi : ES → EH → Res (Option Int)) (es : ES) : EV → EH → Res EV := fun x h => (lo es h).bind (kSl2 f hi es x)
@[simp] theorem ap_sl (f : EV → Option Int → Option Int → EH → Res EV) (a : DE) (lo hi : ES → EH → Res (Option Int)) : dSl f a lo hi es h = (a es h).bind (kSl f lo hi es) := rfl
@[simp] theorem ap_kSl (f : EV → Option Int → Option Int → EH → Res EV) (lo hi : ES → EH → Res (Option Int)) (x : EV) : kSl f lo hi es x h = (lo es h).bind (kSl2 f hi es x) := rfl
@[simp] theorem ap_kSl2 (f : EV → Option Int → Option Int → EH → Res EV) (hi : ES → EH → Res (Option Int)) (x : EV) (l : Option Int) : kSl2 f hi es x l h = (hi es h).bind (kSl3 f x l) := rfl
@[simp] theorem ap_kSl3 (f : EV → Option Int → Option Int → EH → Res EV) (x : EV) (l u : Option Int) : kSl3 f x l u h = f x l u h := rfl
def kDef : Flw → EH → Res EV := fun f h1 => match f with
  | .nx _ => .ok .non h1
  | .rt v => .ok v h1
  | .bk _ => .no
  | .ct _ => .no
theorem ap_def (np N : Nat) (b : DS) (args : List EV) (hl : args.length = np) : dDef np N b args h = (b (args.map some ++ List.replicate (N - args.length) none) h).bind kDef := by
  unfold dDef
  rw [if_pos hl]
  rfl
@[simp] theorem kDef_nx : kDef (.nx es) h = .ok .non h := rfl
@[simp] theorem kDef_rt (v : EV) : kDef (.rt v) h = .ok v h := rfl
end
section
variable (h : EH) (i j : Int)
@[simp] theorem orE_no {α : Type} (k : Unit → Res α) : (Res.no).orElse k = k () := rfl
@[simp] theorem orE_ok {α : Type} (v : α) (h : EH) (k : Unit → Res α) : (Res.ok v h).orElse k = .ok v h := rfl
@[simp] theorem f_add : fAdd (.int i) (.int j) h = .ok (.int (i + j)) h := rfl
@[simp] theorem f_sub : fSub (.int i) (.int j) h = .ok (.int (i - j)) h := rfl
theorem f_mul (hj : -18446744073709551616 < j) (hj2 : j < 18446744073709551616) : fMul (.int i) (.int j) h = .ok (.int (i * j)) h := by
  show (fInt _ _ _ _ _).orElse _ = _
  simp only [fInt]
  rw [if_pos (by simp [hj, hj2])]
  rfl
theorem f_mulL (hj : -18446744073709551616 < i) (hj2 : i < 18446744073709551616) : fMul (.int i) (.int j) h = .ok (.int (i * j)) h := by
  show (fInt _ _ _ _ _).orElse _ = _
  simp only [fInt]
  rw [if_pos (by simp [hj, hj2])]
  rfl
theorem f_mod (hj : 0 < j) : fMod (.int i) (.int j) h = .ok (.int (i % j)) h := by
  simp [fMod, fInt, hj]
theorem f_div (hj : 0 < j) (hj2 : j < 18446744073709551616) : fDiv (.int i) (.int j) h = .ok (.int (i / j)) h := by
  simp only [fDiv, fInt]
  rw [if_pos (by simp [hj, hj2])]
@[simp] theorem f_pow10 : fPow (.int 10) (.int 18) h = .ok (.int 1000000000000000000) h := by
  simp only [fPow, fInt]
  rw [if_pos (by decide)]
  rfl
@[simp] theorem f_lt : fLt (.int i) (.int j) h = .ok (.bl (decide (i < j))) h := rfl
@[simp] theorem f_le : fLe (.int i) (.int j) h = .ok (.bl (decide (i ≤ j))) h := rfl
@[simp] theorem f_gt : fGt (.int i) (.int j) h = .ok (.bl (decide (j < i))) h := rfl
@[simp] theorem f_ge : fGe (.int i) (.int j) h = .ok (.bl (decide (j ≤ i))) h := rfl
@[simp] theorem f_eqI : fEq (.int i) (.int j) h = .ok (.bl (decide (i = j))) h := by
  show (Res.ok _ _).orElse _ = _
  simp
@[simp] theorem f_neI : fNe (.int i) (.int j) h = .ok (.bl (!decide (i = j))) h := by
  show (Res.ok _ _).orElse _ = _
  simp
@[simp] theorem f_eqB (a b : Bool) : fEq (.bl a) (.bl b) h = .ok (.bl (decide (a = b))) h := by
  show (Res.ok _ _).orElse _ = _
  simp
@[simp] theorem f_eqStr (a b : Str) : fEq (.str a) (.str b) h = .ok (.bl (decide (a = b))) h := by
  show (Res.ok _ _).orElse _ = _
  simp
@[simp] theorem f_neStr (a b : Str) : fNe (.str a) (.str b) h = .ok (.bl (!decide (a = b))) h := by
  show (Res.ok _ _).orElse _ = _
  simp
@[simp] theorem f_neB (a b : Bool) : fNe (.bl a) (.bl b) h = .ok (.bl (!decide (a = b))) h := by
  show (Res.ok _ _).orElse _ = _
  simp
@[simp] theorem f_isN_non : fIsN false .non .non h = .ok (.bl true) h := rfl
@[simp] theorem f_isN_int : fIsN false (.int i) .non h = .ok (.bl false) h := rfl
@[simp] theorem f_isN_bl (b : Bool) : fIsN false (.bl b) .non h = .ok (.bl false) h := rfl
@[simp] theorem f_isN_str (b : Str) : fIsN false (.str b) .non h = .ok (.bl false) h := rfl
@[simp] theorem f_isN_ref (b : Nat) : fIsN false (.ref b) .non h = .ok (.bl false) h := rfl
@[simp] theorem f_isN_tup (b : List EV) : fIsN false (.tup b) .non h = .ok (.bl false) h := rfl
variable {h}
theorem f_ixL {m : Nat} {xs : List EV} {v : EV} (e : lstAt h m = some xs) (k : Nat) (ek : i = (k : Int)) (ev : xs[k]? = some v) : fIx (.ref m) (.int i) h = .ok v h := by
  subst ek
  show (fIxL _ _ _).orElse _ = _
  simp only [fIxL, e, atI_nat ev]
  rfl
theorem f_ixT {xs : List EV} {v : EV} (k : Nat) (ek : i = (k : Int)) (ev : xs[k]? = some v) : fIx (.tup xs) (.int i) h = .ok v h := by
  subst ek
  show (Res.no).orElse _ = _
  simp only [orE_no, fIxT, atI_nat ev]
theorem ixN_of {n k : Nat} (hk : k < n) : ixN n (k : Int) = some k := by
  unfold ixN
  rw [if_pos (by omega), if_pos (by omega)]
  simp
theorem s_lst {m : Nat} {xs : List EV} {x : EV} (e : mutAt h m = some xs) (k : Nat) (ek : i = (k : Int)) (hk : k < xs.length) : sLst (.ref m) (.int i) x h = .ok () (h.set m (.lst (xs.set k x))) := by
  subst ek
  simp only [sLst, e, ixN_of hk]
theorem m_append {m : Nat} {xs : List EV} {x : EV} (e : mutAt h m = some xs) (hl : xs.length < 100000) : mApp (.ref m) [x] h = .ok .non (h.set m (.lst (xs ++ [x]))) := by
  simp only [mApp, e, if_pos hl]
theorem f_len {m : Nat} {xs : List EV} (e : lstAt h m = some xs) : fLen [.ref m] h = .ok (.int xs.length) h := by
  simp only [fLen, e]
@[simp] theorem f_lenT (xs : List EV) : fLen [.tup xs] h = .ok (.int xs.length) h := rfl
theorem f_list {m : Nat} {xs : List EV} (e : lstAt h m = some xs) : fListOf [.ref m] h = .ok (.ref h.length) (h ++ [.lst xs]) := by
  simp only [fListOf, e]
theorem f_cat {m n : Nat} {xs ys : List EV} (e : mutAt h m = some xs) (e2 : mutAt h n = some ys) (hl : xs.length + ys.length ≤ 100000) : fAdd (.ref m) (.ref n) h = .ok (.ref h.length) (h ++ [.lst (xs ++ ys)]) := by
  show (Res.no).orElse _ = _
  simp only [orE_no, fCat, e, e2, if_pos hl]
theorem f_slice {m : Nat} {xs : List EV} (e : lstAt h m = some xs) (lo hi : Option Int) : fSl (.ref m) lo hi h = .ok (.ref h.length) (h ++ [.lst (cutE xs lo hi)]) := by
  simp only [fSl, e]
theorem f_rep {m : Nat} {xs : List EV} (e : mutAt h m = some xs) (h0 : 0 ≤ i) (h1 : i ≤ 1000) (hl : xs.length ≤ 10) : fMul (.ref m) (.int i) h = .ok (.ref h.length) (h ++ [.lst (List.replicate i.toNat xs).flatten]) := by
  show (Res.no).orElse _ = _
  simp only [orE_no, fRep, e]
  rw [if_pos (by simp [h0, h1, hl])]
end
theorem lst_mut {h : EH} {n : Nat} {xs : List EV} (e : mutAt h n = some xs) : lstAt h n = some xs := by
  unfold mutAt at e
  unfold lstAt
  split at e
  · rename_i q
    rw [q]
    exact e
  · cases e
theorem mutAt_lt {h : EH} {n : Nat} {xs : List EV} (e : mutAt h n = some xs) : n < h.length := by
  unfold mutAt at e
  split at e
  · rename_i q
    exact (List.getElem?_eq_some_iff.mp q).1
  · cases e
theorem lstAt_lt {h : EH} {n : Nat} {xs : List EV} (e : lstAt h n = some xs) : n < h.length := by
  unfold lstAt at e
  split at e
  · rename_i q
    exact (List.getElem?_eq_some_iff.mp q).1
  · rename_i q
    exact (List.getElem?_eq_some_iff.mp q).1
  · cases e
theorem lstAt_app {h t : EH} {n : Nat} {xs : List EV} (e : lstAt h n = some xs) : lstAt (h ++ t) n = some xs := by
  have hl := lstAt_lt e
  unfold lstAt at e ⊢
  rw [List.getElem?_append_left hl]
  exact e
theorem mutAt_app {h t : EH} {n : Nat} {xs : List EV} (e : mutAt h n = some xs) : mutAt (h ++ t) n = some xs := by
  have hl := mutAt_lt e
  unfold mutAt at e ⊢
  rw [List.getElem?_append_left hl]
  exact e
@[simp] theorem mutAt_new {h : EH} {xs : List EV} : mutAt (h ++ [.lst xs]) h.length = some xs := by
  unfold mutAt
  simp
@[simp] theorem lstAt_new {h : EH} {xs : List EV} : lstAt (h ++ [.lst xs]) h.length = some xs := lst_mut mutAt_new
theorem mutAt_set {h : EH} {n : Nat} {xs : List EV} (hn : n < h.length) : mutAt (h.set n (.lst xs)) n = some xs := by
  unfold mutAt
  rw [List.getElem?_set_self hn]
@[simp] theorem mutAt_new2 {h : EH} {o : EO} {xs : List EV} : mutAt (h ++ [o, .lst xs]) (h.length + 1) = some xs := by
  unfold mutAt
  rw [List.getElem?_append_right (by omega), Nat.add_sub_cancel_left]
  rfl
@[simp] theorem lstAt_new2 {h : EH} {o : EO} {xs : List EV} : lstAt (h ++ [o, .lst xs]) (h.length + 1) = some xs := lst_mut mutAt_new2
theorem lstAt_set {h : EH} {n : Nat} {xs : List EV} (hn : n < h.length) : lstAt (h.set n (.lst xs)) n = some xs := lst_mut (mutAt_set hn)
theorem mutAt_ne {h : EH} {m n : Nat} {o : EO} (hn : n ≠ m) : mutAt (h.set n o) m = mutAt h m := by
  unfold mutAt
  rw [List.getElem?_set_ne hn]
theorem lstAt_ne {h : EH} {m n : Nat} {o : EO} (hn : n ≠ m) : lstAt (h.set n o) m = lstAt h m := by
  unfold lstAt
  rw [List.getElem?_set_ne hn]
def Fr (X : List Nat) (h h' : EH) : Prop := h.length ≤ h'.length ∧ ∀ n, n < h.length → n ∉ X → h'[n]? = h[n]?
theorem Fr.refl (X : List Nat) (h : EH) : Fr X h h := ⟨Nat.le_refl _, fun _ _ _ => rfl⟩
theorem Fr.trans {X : List Nat} {h h1 h2 : EH} (a : Fr X h h1) (b : Fr X h1 h2) : Fr X h h2 := ⟨Nat.le_trans a.1 b.1, fun n hn hx => (b.2 n (Nat.lt_of_lt_of_le hn a.1) hx).trans (a.2 n hn hx)⟩
theorem Fr.app (X : List Nat) (h t : EH) : Fr X h (h ++ t) := ⟨by simp, fun n hn _ => List.getElem?_append_left hn⟩
theorem Fr.weak {X Y : List Nat} {h h' : EH} (a : Fr X h h') (hx : ∀ n ∈ X, n ∈ Y) : Fr Y h h' := ⟨a.1, fun n hn h => a.2 n hn fun q => h (hx n q)⟩
theorem Fr.set {X : List Nat} {h h' : EH} (a : Fr X h h') {n : Nat} {o : EO} (hn : n ∈ X ∨ h.length ≤ n) : Fr X h (h'.set n o) := ⟨by rw [List.length_set]; exact a.1, fun m hm hx => by
  rw [List.getElem?_set_ne]
  · exact a.2 m hm hx
  · intro e
    subst e
    rcases hn with z | z
    · exact hx z
    · omega⟩
theorem Fr.lst {X : List Nat} {h h' : EH} (a : Fr X h h') {n : Nat} {xs : List EV} (e : lstAt h n = some xs) (hx : n ∉ X) : lstAt h' n = some xs := by
  have hl := lstAt_lt e
  unfold lstAt at e ⊢
  rw [a.2 n hl hx]
  exact e
theorem Fr.mut {X : List Nat} {h h' : EH} (a : Fr X h h') {n : Nat} {xs : List EV} (e : mutAt h n = some xs) (hx : n ∉ X) : mutAt h' n = some xs := by
  have hl := mutAt_lt e
  unfold mutAt at e ⊢
  rw [a.2 n hl hx]
  exact e
theorem Fr.at {X : List Nat} {h h' : EH} (a : Fr X h h') {n : Nat} {o : EO} (e : h[n]? = some o) (hx : n ∉ X) : h'[n]? = some o := by
  rw [a.2 n (List.getElem?_eq_some_iff.mp e).1 hx]
  exact e
theorem tri_for {it : Wlk} {g : DG} {b : DS} {xs : List EV} {es : ES} {h : EH} {Q : Flw → EH → Prop} (I : Nat → ES → EH → Prop) (h0 : I 0 es h) (hcur : ∀ i es h, I i es h → it.cur h = some xs)
    (hstep : ∀ (i : Nat) (x : EV) es h (K : Flw → EH → Prop), xs[i]? = some x → I i es h → (∀ es2 h2, I (i + 1) es2 h2 → K (.nx es2) h2) → (∀ es2 h2, I (i + 1) es2 h2 → K (.ct es2) h2) → (∀ es2 h2, Q (.nx es2) h2 → K (.bk es2) h2) → (∀ v h2, Q (.rt v) h2 → K (.rt v) h2) →
      Tri (g (it.tl i x) es h) fun es1 h1 => Tri (b es1 h1) K)
    (hend : ∀ es h, I xs.length es h → Q (.nx es) h) : Tri (kFor g b es it h) Q := by
  have key : ∀ (m i : Nat) es h, i + m = xs.length + 1 → i ≤ xs.length → I i es h → Tri (forGo it g b m i es h) Q := by
    intro m
    induction m with
    | zero =>
      intro i es h hi hl hI
      exact absurd hi (by omega)
    | succ m ih =>
      intro i es h hi hl hI
      unfold forGo
      rw [hcur i es h hI]
      simp only
      cases hx : xs[i]? with
      | none =>
        have hge := List.getElem?_eq_none_iff.mp hx
        have : i = xs.length := by omega
        subst this
        exact hend es h hI
      | some x =>
        simp only
        have hlt := (List.getElem?_eq_some_iff.mp hx).1
        have hs := hstep i x es h (fun f h2 => match f with
          | .nx es2 => I (i + 1) es2 h2
          | .ct es2 => I (i + 1) es2 h2
          | .bk es2 => Q (.nx es2) h2
          | .rt v => Q (.rt v) h2) hx hI (fun _ _ q => q) (fun _ _ q => q) (fun _ _ q => q) (fun _ _ q => q)
        rw [tri_bind]
        refine hs.mono fun es1 h1 hs1 => ?_
        rw [tri_bind]
        refine hs1.mono fun f h2 hf => ?_
        cases f with
        | nx es2 => exact ih (i + 1) es2 h2 (by omega) (by omega) hf
        | ct es2 => exact ih (i + 1) es2 h2 (by omega) (by omega) hf
        | bk es2 => exact hf
        | rt v => exact hf
  unfold kFor
  rw [hcur 0 es h h0]
  exact key _ 0 es h (by omega) (by omega) h0
theorem tri_lc {it : Wlk} {g : DG} {t : DT} {e : DE} {vs : List Nat} {xs : List EV} {es : ES} {h : EH} {Q : EV → EH → Prop} (J : Nat → List EV → EH → Prop) (h0 : J 0 [] h) (hcur : ∀ i acc h, J i acc h → it.cur h = some xs)
    (hstep : ∀ (i : Nat) (x : EV) acc h, xs[i]? = some x → J i acc h → Tri (g (it.tl i x) (wip es vs) h) fun es1 h1 => Tri (t es1 h1) fun b h2 => if b = true then Tri (e es1 h2) fun y h3 => acc.length < 50000 ∧ J (i + 1) (acc ++ [y]) h3 else J (i + 1) acc h2)
    (hend : ∀ acc h, J xs.length acc h → Q (.ref h.length) (h ++ [.lst acc])) : Tri (kLc g t e vs es it h) Q := by
  have key : ∀ (m i : Nat) acc h, i + m = xs.length + 1 → i ≤ xs.length → J i acc h → Tri (lcGo it g t e vs m i acc es h) fun acc h => J xs.length acc h := by
    intro m
    induction m with
    | zero =>
      intro i acc h hi hl hI
      exact absurd hi (by omega)
    | succ m ih =>
      intro i acc h hi hl hI
      unfold lcGo
      rw [hcur i acc h hI]
      simp only
      cases hx : xs[i]? with
      | none =>
        have hge := List.getElem?_eq_none_iff.mp hx
        have : i = xs.length := by omega
        subst this
        exact hI
      | some x =>
        simp only
        have hs := hstep i x acc h hx hI
        have hlt := (List.getElem?_eq_some_iff.mp hx).1
        rw [tri_bind]
        refine hs.mono fun es1 h1 hs1 => ?_
        rw [tri_bind]
        refine hs1.mono fun b h2 hb => ?_
        cases b with
        | false => exact ih (i + 1) acc h2 (by omega) (by omega) hb
        | true =>
          simp only [if_true] at hb ⊢
          rw [tri_bind]
          refine hb.mono fun y h3 hy => ?_
          rw [if_pos hy.1]
          exact ih (i + 1) _ h3 (by omega) (by omega) hy.2
  unfold kLc
  rw [hcur 0 [] h h0]
  simp only
  rw [tri_bind]
  exact (key _ 0 [] h (by omega) (by omega) h0).mono fun acc h' hJ => hend acc h' hJ
def gvn (n : Nat) (p : Nat → Bool) (v : Nat → EV) : List EV := ((List.range n).filter p).map v
theorem gvn_zero (p : Nat → Bool) (v : Nat → EV) : gvn 0 p v = [] := rfl
theorem gvn_yes {n : Nat} {p : Nat → Bool} {v : Nat → EV} (h : p n = true) : gvn (n + 1) p v = gvn n p v ++ [v n] := by
  unfold gvn
  rw [List.range_succ, List.filter_append, List.map_append]
  simp [h]
theorem gvn_no {n : Nat} {p : Nat → Bool} {v : Nat → EV} (h : p n = false) : gvn (n + 1) p v = gvn n p v := by
  unfold gvn
  rw [List.range_succ, List.filter_append, List.map_append]
  simp [h]
theorem gvn_len (n : Nat) (p : Nat → Bool) (v : Nat → EV) : (gvn n p v).length ≤ n := by
  unfold gvn
  rw [List.length_map]
  have h := List.length_filter_le p (List.range n)
  rw [List.length_range] at h
  exact h
theorem tri_lcJ {it : Wlk} {j : Nat} {t : DT} {e : DE} {vs : List Nat} {xs : List EV} {es : ES} {h : EH} {Q : EV → EH → Prop} (J : Nat → List EV → EH → Prop) (h0 : J 0 [] h) (hcur : ∀ i acc h, J i acc h → it.cur h = some xs) (hacc : ∀ i acc h, J i acc h → acc.length < 50000)
    (hstep : ∀ (i : Nat) (x : EV) acc h (K : Bool → EH → Prop), xs[i]? = some x → J i acc h → (∀ h2, J (i + 1) acc h2 → K false h2) →
      (∀ h2, (∀ Ke : EV → EH → Prop, (∀ y h3, J (i + 1) (acc ++ [y]) h3 → Ke y h3) → Tri (e ((wip es vs).set j (some (it.tl i x))) h2) Ke) → K true h2) → Tri (t ((wip es vs).set j (some (it.tl i x))) h) K)
    (hend : ∀ acc h, J xs.length acc h → Q (.ref h.length) (h ++ [.lst acc])) : Tri (kLc (dName j) t e vs es it h) Q := by
  refine tri_lc (xs := xs) J h0 hcur (fun i x acc h' hx q => ?_) hend
  simp only [ap_name, tri_ok]
  refine hstep i x acc h' _ hx q (fun h2 q2 => ?_) (fun h2 q2 => ?_)
  · rw [if_neg (by decide)]
    exact q2
  · rw [if_pos rfl]
    refine q2 _ fun y h3 q3 => ⟨hacc i acc h' q, q3⟩
theorem tri_lcP {it : Wlk} {j : Nat} {t : DT} {e : DE} {vs : List Nat} {xs : List EV} {es : ES} {h : EH} {Q : EV → EH → Prop} (p : Nat → Bool) (v : Nat → EV) (hl : xs.length < 50000) (hcur : ∀ h', Fr [] h h' → it.cur h' = some xs)
    (ht : ∀ (i : Nat) (x : EV) h' (K : Bool → EH → Prop), xs[i]? = some x → Fr [] h h' → (∀ h2, Fr [] h' h2 → K (p i) h2) → Tri (t ((wip es vs).set j (some (it.tl i x))) h') K)
    (he : ∀ (i : Nat) (x : EV) h' (K : EV → EH → Prop), xs[i]? = some x → Fr [] h h' → p i = true → (∀ h2, Fr [] h' h2 → K (v i) h2) → Tri (e ((wip es vs).set j (some (it.tl i x))) h') K)
    (hend : ∀ h', Fr [] h h' → Q (.ref h'.length) (h' ++ [.lst (gvn xs.length p v)])) : Tri (kLc (dName j) t e vs es it h) Q := by
  refine tri_lc (xs := xs) (fun i acc h' => Fr [] h h' ∧ acc = gvn i p v) ⟨Fr.refl _ _, rfl⟩ (fun i acc h' q => hcur h' q.1) (fun i x acc h' hx q => ?_) fun acc h' q => ?_
  · obtain ⟨hf, rfl⟩ := q
    simp only [ap_name, tri_ok]
    have hlt := (List.getElem?_eq_some_iff.mp hx).1
    refine ht i x h' _ hx hf fun h2 f2 => ?_
    cases hp : p i with
    | false =>
      rw [if_neg (by decide)]
      exact ⟨hf.trans f2, (gvn_no hp).symm⟩
    | true =>
      rw [if_pos rfl]
      refine he i x h2 _ hx (hf.trans f2) hp fun h3 f3 => ?_
      exact ⟨by have := gvn_len i p v; omega, (hf.trans f2).trans f3, (gvn_yes hp).symm⟩
  · obtain ⟨hf, rfl⟩ := q
    exact hend h' hf
theorem gvn_false (n : Nat) (v : Nat → EV) : gvn n (fun _ => false) v = [] := by
  unfold gvn
  simp
theorem gvn_true (n : Nat) (v : Nat → EV) : gvn n (fun _ => true) v = (List.range n).map v := by
  unfold gvn
  congr 1
  exact List.filter_eq_self.mpr (by simp)
end EE
set_option Elab.async false
set_option linter.all false
set_option maxRecDepth 100000
set_option maxHeartbeats 1000000
namespace EE
open PySem L2
section
variable (es : ES) (h : EH)
def kFld (c i : Nat) : EV → EH → Res EV := fun x h1 => match x with
  | .ref n => match objAt c h1 n with
    | some fs => match fs[i]? with
      | some (some v) => .ok v h1
      | _ => .no
    | none => .no
  | _ => .no
@[simp] theorem ap_fld (c i : Nat) (o : DE) : dFld c i o es h = (o es h).bind (kFld c i) := rfl
def kSetF2 (c i : Nat) (es : ES) (y : EV) : EV → EH → Res Flw := fun x h2 => match x with
  | .ref n => match objAt c h2 n with
    | some fs => .ok (.nx es) (h2.set n (.obj c (fs.set i (some y))))
    | none => .no
  | _ => .no
def kSetF (c i : Nat) (o : DE) (es : ES) : EV → EH → Res Flw := fun y h1 => (o es h1).bind (kSetF2 c i es y)
@[simp] theorem ap_setF (c i : Nat) (o v : DE) : dSetF c i o v es h = (v es h).bind (kSetF c i o es) := rfl
@[simp] theorem ap_kSetF (c i : Nat) (o : DE) (y : EV) : kSetF c i o es y h = (o es h).bind (kSetF2 c i es y) := rfl
def kAugF3 (c i n : Nat) (es : ES) : EV → EH → Res Flw := fun z h3 => match objAt c h3 n with
  | some fs' => .ok (.nx es) (h3.set n (.obj c (fs'.set i (some z))))
  | none => .no
def kAugF2 (c i : Nat) (f : D2) (n : Nat) (w : EV) (es : ES) : EV → EH → Res Flw := fun y h2 => (f w y h2).bind (kAugF3 c i n es)
def kAugF (c i : Nat) (f : D2) (v : DE) (es : ES) : EV → EH → Res Flw := fun x h1 => match x with
  | .ref n => match objAt c h1 n with
    | some fs => match fs[i]? with
      | some (some w) => (v es h1).bind (kAugF2 c i f n w es)
      | _ => .no
    | none => .no
  | _ => .no
@[simp] theorem ap_augF (c i : Nat) (f : D2) (o v : DE) : dAugF c i f o v es h = (o es h).bind (kAugF c i f v es) := rfl
@[simp] theorem ap_kAugF2 (c i : Nat) (f : D2) (n : Nat) (w y : EV) : kAugF2 c i f n w es y h = (f w y h).bind (kAugF3 c i n es) := rfl
def kMeth2 (fn : DL) (x : EV) : List EV → EH → Res EV := fun xs h2 => (fn (x :: xs) h2).noer
def kMeth (c : Nat) (fn : DL) (a : DA) (es : ES) : EV → EH → Res EV := fun x h1 => match x with
  | .ref n => match objAt c h1 n with
    | some _ => (a es h1).bind (kMeth2 fn x)
    | none => .no
  | _ => .no
@[simp] theorem ap_meth (c : Nat) (fn : DL) (o : DE) (a : DA) : dMeth c fn o a es h = (o es h).bind (kMeth c fn a es) := rfl
@[simp] theorem ap_kMeth2 (fn : DL) (x : EV) (xs : List EV) : kMeth2 fn x xs h = (fn (x :: xs) h).noer := rfl
def kMake2 (n : Nat) : EV → EH → Res EV := fun v h2 => match v with
  | .non => .ok (.ref n) h2
  | _ => .no
def kMake (c nf : Nat) (fn : DL) : List EV → EH → Res EV := fun xs h1 => (fn (.ref h1.length :: xs) (h1 ++ [.obj c (List.replicate nf none)])).noer.bind (kMake2 h1.length)
@[simp] theorem ap_make (c nf : Nat) (fn : DL) (a : DA) : dMake c nf fn a es h = (a es h).bind (kMake c nf fn) := rfl
@[simp] theorem ap_kMake (c nf : Nat) (fn : DL) (xs : List EV) : kMake c nf fn xs h = (fn (.ref h.length :: xs) (h ++ [.obj c (List.replicate nf none)])).noer.bind (kMake2 h.length) := rfl
@[simp] theorem ap_kMake2 (n : Nat) : kMake2 n .non h = .ok (.ref n) h := rfl
@[simp] theorem ap_newD (t : Bool) : dNewD t es h = .ok (.ref h.length) (h ++ [.dic t []]) := rfl
def kBMD (f : EV → DL) (a : DA) (es : ES) : EV → EH → Res EV := fun x h1 => match x with
  | .ref n => match mdicAt h1 n with
    | some _ => (a es h1).bind (kBM2 f x)
    | none => .no
  | _ => .no
@[simp] theorem ap_bmD (f : EV → DL) (o : DE) (a : DA) : dBMD f o a es h = (o es h).bind (kBMD f a es) := rfl
def kItK : EV → EH → Res Wlk := fun x h1 => match x with
  | .ref n => match lkAt h1 n with
    | some (_, kvs) => .ok ⟨none, kvs.map (·.1), fun _ x => x⟩ h1
    | none => .no
  | _ => .no
@[simp] theorem ap_itK (a : DE) : dItK a es h = (a es h).bind kItK := rfl
def kItIT : EV → EH → Res Wlk := fun x h1 => match x with
  | .ref n => match lkAt h1 n with
    | some (true, kvs) => .ok ⟨none, kvs.map (fun p => .tup [p.1, p.2]), fun _ x => x⟩ h1
    | _ => .no
  | _ => .no
@[simp] theorem ap_itIT (a : DE) : dItIT a es h = (a es h).bind kItIT := rfl
def kTru : EV → EH → Res Bool := fun x h1 => match x with
  | .tup xs => .ok (!xs.isEmpty) h1
  | .bl b => .ok b h1
  | .non => .ok false h1
  | .int i => .ok (i != 0) h1
  | .ref n => match lstAt h1 n with
    | some xs => .ok (!xs.isEmpty) h1
    | none => match mdicAt h1 n with
      | some (false, kvs) => .ok (!kvs.isEmpty) h1
      | _ => .no
  | _ => .no
@[simp] theorem ap_tru (a : DE) : dTru a es h = (a es h).bind kTru := rfl
@[simp] theorem ap_kTruT (xs : List EV) : kTru (.tup xs) h = .ok (!xs.isEmpty) h := rfl
def kDc2 (kd : Bool) : List (EV × EV) → EH → Res EV := fun ys h2 => .ok (.ref h2.length) (h2 ++ [.dic kd ys])
def kDc (kd : Bool) (g : DG) (t : DT) (k e : DE) (vs : List Nat) (es : ES) : Wlk → EH → Res EV := fun it h1 => match it.cur h1 with
  | none => .no
  | some xs => (dcGo kd it g t k e vs (xs.length + 1) 0 [] es h1).bind (kDc2 kd)
@[simp] theorem ap_dc (kd : Bool) (di : DI) (g : DG) (t : DT) (k e : DE) (vs : List Nat) : dDc kd di g t k e vs es h = (di es h).bind (kDc kd g t k e vs es) := rfl
end
section
variable {es : ES} {h : EH} {n : Nat}
theorem objAt_of {c : Nat} {fs : List (Option EV)} (e : h[n]? = some (.obj c fs)) : objAt c h n = some fs := by
  unfold objAt
  rw [e]
  exact if_pos rfl
theorem mdicAt_of {t : Bool} {kvs : List (EV × EV)} (e : h[n]? = some (.dic t kvs)) : mdicAt h n = some (t, kvs) := by
  unfold mdicAt
  rw [e]
theorem dicAt_of {t : Bool} {kvs : List (EV × EV)} (e : h[n]? = some (.dic t kvs) ∨ h[n]? = some (.lkd t kvs)) : dicAt h n = some (t, kvs) := by
  unfold dicAt
  rcases e with e | e <;> rw [e]
theorem lkAt_of {t : Bool} {kvs : List (EV × EV)} (e : h[n]? = some (.lkd t kvs)) : lkAt h n = some (t, kvs) := by
  unfold lkAt
  rw [e]
theorem lstAt_of {xs : List EV} (e : h[n]? = some (.lst xs)) : lstAt h n = some xs := by
  unfold lstAt
  rw [e]
theorem mutAt_of {xs : List EV} (e : h[n]? = some (.lst xs)) : mutAt h n = some xs := by
  unfold mutAt
  rw [e]
theorem kFld_ref {c i : Nat} {fs : List (Option EV)} {v : EV} (e : h[n]? = some (.obj c fs)) (ev : fs[i]? = some (some v)) : kFld c i (.ref n) h = .ok v h := by
  simp only [kFld, objAt_of e, ev]
theorem kSetF2_ref {c i : Nat} {fs : List (Option EV)} {y : EV} (e : h[n]? = some (.obj c fs)) : kSetF2 c i es y (.ref n) h = .ok (.nx es) (h.set n (.obj c (fs.set i (some y)))) := by
  simp only [kSetF2, objAt_of e]
theorem kAugF_ref {c i : Nat} {f : D2} {v : DE} {fs : List (Option EV)} {w : EV} (e : h[n]? = some (.obj c fs)) (ev : fs[i]? = some (some w)) : kAugF c i f v es (.ref n) h = (v es h).bind (kAugF2 c i f n w es) := by
  simp only [kAugF, objAt_of e, ev]
theorem kAugF3_ref {c i : Nat} {fs : List (Option EV)} {z : EV} (e : h[n]? = some (.obj c fs)) : kAugF3 c i n es z h = .ok (.nx es) (h.set n (.obj c (fs.set i (some z)))) := by
  simp only [kAugF3, objAt_of e]
theorem kMeth_ref {c : Nat} {fn : DL} {a : DA} {fs : List (Option EV)} (e : h[n]? = some (.obj c fs)) : kMeth c fn a es (.ref n) h = (a es h).bind (kMeth2 fn (.ref n)) := by
  simp only [kMeth, objAt_of e]
theorem kBMD_ref {f : EV → DL} {a : DA} {t : Bool} {kvs : List (EV × EV)} (e : h[n]? = some (.dic t kvs)) : kBMD f a es (.ref n) h = (a es h).bind (kBM2 f (.ref n)) := by
  simp only [kBMD, mdicAt_of e]
theorem kItK_ref {t : Bool} {kvs : List (EV × EV)} (e : h[n]? = some (.lkd t kvs)) : kItK (.ref n) h = .ok ⟨none, kvs.map (·.1), fun _ x => x⟩ h := by
  simp only [kItK, lkAt_of e]
theorem kItIT_ref {kvs : List (EV × EV)} (e : h[n]? = some (.lkd true kvs)) : kItIT (.ref n) h = .ok ⟨none, kvs.map (fun p => .tup [p.1, p.2]), fun _ x => x⟩ h := by
  simp only [kItIT, lkAt_of e]
theorem f_dget {t : Bool} {kvs : List (EV × EV)} {x v : EV} (e : h[n]? = some (.dic t kvs) ∨ h[n]? = some (.lkd t kvs)) (hg : dgetE t kvs x = some (some v)) : fDGet (.ref n) x h = .ok v h := by
  simp only [fDGet, dicAt_of e, hg]
theorem f_din {neg t : Bool} {kvs : List (EV × EV)} {x : EV} {o : Option EV} (e : h[n]? = some (.dic t kvs) ∨ h[n]? = some (.lkd t kvs)) (hg : dgetE t kvs x = some o) : fDIn neg x (.ref n) h = .ok (.bl (neg ^^ o.isSome)) h := by
  simp only [fDIn, dicAt_of e, hg]
theorem s_dic {t : Bool} {kvs kvs' : List (EV × EV)} {x v : EV} (e : h[n]? = some (.dic t kvs)) (hp : dputE t kvs x v = some kvs') (hl : kvs.length < 100000) : sDic (.ref n) x v h = .ok () (h.set n (.dic t kvs')) := by
  simp only [sDic, mdicAt_of e, hp, if_pos hl]
theorem m_pop_yes {kvs : List (EV × EV)} {x z v : EV} {k : List Key} (e : h[n]? = some (.dic true kvs)) (hk : tkeyOf x = some k) (hv : dval tkeyOf kvs k = some v) : mPopT (.ref n) [x, z] h = .ok v (h.set n (.dic true (ddrop tkeyOf kvs k))) := by
  simp only [mPopT, mdicAt_of e, hk, hv]
theorem m_pop_no {kvs : List (EV × EV)} {x z : EV} {k : List Key} (e : h[n]? = some (.dic true kvs)) (hk : tkeyOf x = some k) (hv : dval tkeyOf kvs k = none) : mPopT (.ref n) [x, z] h = .ok z h := by
  simp only [mPopT, mdicAt_of e, hk, hv]
theorem f_keysT {kvs : List (EV × EV)} (e : h[n]? = some (.dic true kvs) ∨ h[n]? = some (.lkd true kvs)) : fKeysT [.ref n] h = .ok (.ref h.length) (h ++ [.lst (kvs.map (·.1))]) := by
  simp only [fKeysT, dicAt_of e]
theorem f_tupL {xs : List EV} (e : lstAt h n = some xs) : fTupL [.ref n] h = .ok (.tup xs) h := by
  simp only [fTupL, e]
theorem lstAt_dic {t : Bool} {kvs : List (EV × EV)} (e : h[n]? = some (.dic t kvs) ∨ h[n]? = some (.lkd t kvs)) : lstAt h n = none := by
  unfold lstAt
  rcases e with e | e <;> rw [e]
theorem f_sortI {xs : List EV} {l : List Int} (e : lstAt h n = some xs) (hl : intsE xs = some l) : fSorted [.ref n] h = .ok (.ref h.length) (h ++ [.lst ((isort l).map EV.int)]) := by
  show (fSortI _ _).orElse _ = _
  simp only [fSortI, e, hl]
  rfl
theorem f_sortT {kvs : List (EV × EV)} {l : List (Int × Int)} (e : h[n]? = some (.dic true kvs) ∨ h[n]? = some (.lkd true kvs)) (hl : pairsE (kvs.map (·.1)) = some l) : fSorted [.ref n] h = .ok (.ref h.length) (h ++ [.lst ((psort l).map pairE)]) := by
  show (fSortI _ _).orElse _ = _
  simp only [fSortI, lstAt_dic e, orE_no]
  show (fSortT _ _).orElse _ = _
  simp only [fSortT, dicAt_of e, hl]
  rfl
theorem f_sortD {kvs : List (EV × EV)} {l : List Int} (e : h[n]? = some (.dic false kvs) ∨ h[n]? = some (.lkd false kvs)) (hl : intsE (kvs.map (·.1)) = some l) (h64 : l.length < 64) : fSorted [.ref n] h = .ok (.ref h.length) (h ++ [.lst ((isort l).map EV.int)]) := by
  show (fSortI _ _).orElse _ = _
  simp only [fSortI, lstAt_dic e, orE_no]
  show (fSortT _ _).orElse _ = _
  simp only [fSortT, dicAt_of e, orE_no]
  show fSortD _ _ = _
  simp only [fSortD, dicAt_of e, hl, if_pos h64]
theorem f_dictT {xs : List EV} {kvs : List (EV × EV)} (e : lstAt h n = some xs) (hk : dfoldT [] xs = some kvs) : fDictT [.ref n] h = .ok (.ref h.length) (h ++ [.dic true kvs]) := by
  simp only [fDictT, e, hk]
theorem lock_fr {h1 : EH} {t : Bool} {kvs : List (EV × EV)} (e : h[n]? = some (.dic t kvs)) (f : Fr [] (h.set n (.lkd t kvs)) h1) : Fr [] h (h1.set n (.dic t kvs)) := by
  have hl := (List.getElem?_eq_some_iff.mp e).1
  refine ⟨by rw [List.length_set]; have := f.1; rw [List.length_set] at this; exact this, fun m hm _ => ?_⟩
  by_cases hmn : n = m
  · subst hmn
    have := f.1
    rw [List.length_set] at this
    rw [List.getElem?_set_self (by omega), e]
  · rw [List.getElem?_set_ne hmn, f.2 m (by rw [List.length_set]; exact hm) (by simp), List.getElem?_set_ne hmn]
theorem lock_at {h1 : EH} {t : Bool} {kvs : List (EV × EV)} (e : h[n]? = some (.dic t kvs)) (f : Fr [] (h.set n (.lkd t kvs)) h1) : h1[n]? = some (.lkd t kvs) :=
  f.at (List.getElem?_set_self (List.getElem?_eq_some_iff.mp e).1) (by simp)
theorem tri_lockE {sel d : DE} {t : Bool} {kvs : List (EV × EV)} {hs : EH} {Q : EV → EH → Prop} (es0 : sel es h = .ok (.ref n) hs) (e : h[n]? = some (.dic t kvs))
    (hd : Tri (d es (h.set n (.lkd t kvs))) fun v h1 => Fr [] (h.set n (.lkd t kvs)) h1 ∧ Q v (h1.set n (.dic t kvs))) : Tri (dLockE sel d es h) Q := by
  unfold dLockE rLock
  simp only [es0, mdicAt_of e]
  rw [tri_bind, tri_noer]
  refine hd.mono fun v h1 ⟨f, q⟩ => ?_
  rw [lkAt_of (lock_at e f)]
  exact q
theorem tri_dc {kd : Bool} {it : Wlk} {g : DG} {t : DT} {k e : DE} {vs : List Nat} {xs : List EV} {Q : EV → EH → Prop} (J : Nat → List (EV × EV) → EH → Prop) (h0 : J 0 [] h) (hcur : ∀ i acc h, J i acc h → it.cur h = some xs)
    (hstep : ∀ (i : Nat) (x : EV) acc h, xs[i]? = some x → J i acc h → Tri (g (it.tl i x) (wip es vs) h) fun es1 h1 => Tri (t es1 h1) fun b h2 => if b = true then Tri (k es1 h2) fun y h3 => Tri (e es1 h3) fun z h4 => ∃ acc', dputE kd acc y z = some acc' ∧ acc.length < 50000 ∧ J (i + 1) acc' h4 else J (i + 1) acc h2)
    (hend : ∀ acc h, J xs.length acc h → Q (.ref h.length) (h ++ [.dic kd acc])) : Tri (kDc kd g t k e vs es it h) Q := by
  have key : ∀ (m i : Nat) acc h, i + m = xs.length + 1 → i ≤ xs.length → J i acc h → Tri (dcGo kd it g t k e vs m i acc es h) fun acc h => J xs.length acc h := by
    intro m
    induction m with
    | zero =>
      intro i acc h hi hl hI
      exact absurd hi (by omega)
    | succ m ih =>
      intro i acc h hi hl hI
      unfold dcGo
      rw [hcur i acc h hI]
      simp only
      cases hx : xs[i]? with
      | none =>
        have hge := List.getElem?_eq_none_iff.mp hx
        have : i = xs.length := by omega
        subst this
        exact hI
      | some x =>
        simp only
        have hs := hstep i x acc h hx hI
        have hlt := (List.getElem?_eq_some_iff.mp hx).1
        rw [tri_bind]
        refine hs.mono fun es1 h1 hs1 => ?_
        rw [tri_bind]
        refine hs1.mono fun b h2 hb => ?_
        cases b with
        | false => exact ih (i + 1) acc h2 (by omega) (by omega) hb
        | true =>
          simp only [if_true] at hb ⊢
          rw [tri_bind]
          refine hb.mono fun y h3 hy => ?_
          rw [tri_bind]
          refine hy.mono fun z h4 ⟨acc', q1, q2, q3⟩ => ?_
          rw [q1]
          simp only
          rw [if_pos q2]
          exact ih (i + 1) _ h4 (by omega) (by omega) q3
  unfold kDc
  rw [hcur 0 [] h h0]
  simp only
  rw [tri_bind]
  exact (key _ 0 [] h (by omega) (by omega) h0).mono fun acc h' hJ => hend acc h' hJ
end
end EE
set_option Elab.async false
set_option linter.all false
set_option maxRecDepth 100000
set_option maxHeartbeats 1000000
namespace EE
open PySem L2
section
variable (es : ES) (h : EH)
def kSM0 (f : EV → DL) : EV → EH → Res EV := fun x h1 => match x with
  | .str _ => f x [] h1
  | _ => .no
@[simp] theorem ap_sm0 (f : EV → DL) (o : DE) : dSM0 f o es h = (o es h).bind (kSM0 f) := rfl
@[simp] theorem ap_kSM0 (f : EV → DL) (s : Str) : kSM0 f (.str s) h = f (.str s) [] h := rfl
def kSM1b (f : EV → DL) (x : EV) : EV → EH → Res EV := fun y h2 => f x [y] h2
def kSM1 (f : EV → DL) (a : DE) (es : ES) : EV → EH → Res EV := fun x h1 => match x with
  | .str _ => (a es h1).bind (kSM1b f x)
  | _ => .no
@[simp] theorem ap_sm1 (f : EV → DL) (o a : DE) : dSM1 f o a es h = (o es h).bind (kSM1 f a es) := rfl
@[simp] theorem ap_kSM1 (f : EV → DL) (a : DE) (s : Str) : kSM1 f a es (.str s) h = (a es h).bind (kSM1b f (.str s)) := rfl
@[simp] theorem ap_kSM1b (f : EV → DL) (x y : EV) : kSM1b f x y h = f x [y] h := rfl
def kStarA2 (ys : List EV) : List EV → EH → Res (List EV) := fun xs h2 => .ok (ys ++ xs) h2
def kStarA (r : DA) (es : ES) : EV → EH → Res (List EV) := fun x h1 => match itemsE h1 x with
  | some ys => (r es h1).bind (kStarA2 ys)
  | none => .no
@[simp] theorem ap_starA (a : DE) (r : DA) : dStarA a r es h = (a es h).bind (kStarA r es) := rfl
@[simp] theorem ap_kStarA2 (ys xs : List EV) : kStarA2 ys xs h = .ok (ys ++ xs) h := rfl
theorem kStarA_ref {h : EH} (r : DA) {n : Nat} {ys : List EV} (e : lstAt h n = some ys) : kStarA r es (.ref n) h = (r es h).bind (kStarA2 ys) := by
  simp [kStarA, itemsE, e]
theorem kStarA_tup (r : DA) (ys : List EV) : kStarA r es (.tup ys) h = (r es h).bind (kStarA2 ys) := rfl
theorem f_catS (i j : Str) (hl : i.length + j.length ≤ 100000) : fCatS (.str i) (.str j) h = .ok (.str (i ++ j)) h := by
  simp only [fCatS, if_pos hl]
theorem f_strI (i : Int) (hi : i.natAbs < 2 ^ 64) : fStr [.int i] h = .ok (.str (toString i)) h := by
  show (fStrI _ _).orElse _ = _
  simp only [fStrI]
  rw [if_pos]
  · rfl
  · by_cases z : i.natAbs = 0
    · rw [z]
      exact (by decide : Nat.log2 0 < 1920)
    · exact Nat.lt_trans ((Nat.log2_lt z).mpr hi) (by decide)
@[simp] theorem f_strS (s : Str) : fStr [.str s] h = .ok (.str s) h := rfl
theorem f_intS {s : Str} {n : Int} (e : PySem.intText? s = some n) (hl : s.length ≤ 640) : fIntS [.str s] h = .ok (.int n) h := by
  simp only [fIntS, e, if_pos hl]
theorem f_lenS (s : Str) (hl : s.length ≤ 100000) : fLenS [.str s] h = .ok (.int s.length) h := by
  simp only [fLenS, if_pos hl]
theorem m_joinL {h : EH} {a : Str} {n : Nat} {ss : List Str} (e : lstAt h n = some (ss.map EV.str)) (hl : (ss.map (·.length)).sum + ss.length * a.length ≤ 16777216) : mJoin (.str a) [.ref n] h = .ok (.str (Txt.join a ss)) h := by
  simp only [mJoin, e, strsE_map, if_pos hl]
theorem m_splitS (a b : Str) (hb : (b.length == 0) = false) (hl : a.length ≤ 99998) : mSplit (.str a) [.str b] h = .ok (.ref h.length) (h ++ [.lst ((Txt.split a b).map EV.str)]) := by
  simp only [mSplit, if_pos (And.intro hb hl)]
@[simp] theorem m_asciiS (a : Str) : mIsascii (.str a) [] h = .ok (.bl (Txt.isascii a)) h := rfl
@[simp] theorem m_digitS (a : Str) : mIsdigit (.str a) [] h = .ok (.bl (Txt.isdigit a)) h := rfl
@[simp] theorem m_startsS (a b : Str) : mStarts (.str a) [.str b] h = .ok (.bl (Txt.startswith a b)) h := rfl
def kItE : List EV → EH → Res Wlk := fun xs h1 => match xs with
  | [.ref n] => match lstAt h1 n with
    | some _ => .ok ⟨some n, [], fun i x => .tup [.int i, x]⟩ h1
    | none => .no
  | _ => .no
@[simp] theorem ap_itE (a : DA) : dItE a es h = (a es h).bind kItE := rfl
theorem kItE_ref {h : EH} {n : Nat} {xs : List EV} (e : lstAt h n = some xs) : kItE [.ref n] h = .ok ⟨some n, [], fun i x => .tup [.int i, x]⟩ h := by
  simp [kItE, e]
theorem ap_gstarL {h : EH} {n i0 : Nat} {xs : List EV} (r : DGs) (e : lstAt h n = some xs) (hl : i0 ≤ xs.length) : dGStarL i0 r (.ref n) es h = r (xs.take i0 ++ [.ref h.length]) es (h ++ [.lst (xs.drop i0)]) := by
  simp only [dGStarL, e, if_pos hl]
def kKGet (tab : List (Str × Int)) : EV → EH → Res EV := fun x h1 => match x with
  | .str s => .ok (match tab.lookup s with
    | some i => .int i
    | none => .non) h1
  | _ => .no
@[simp] theorem ap_kget (tab : List (Str × Int)) (a : DE) : dKGet tab a es h = (a es h).bind (kKGet tab) := rfl
theorem kKGet_some {tab : List (Str × Int)} {s : Str} {i : Int} (e : tab.lookup s = some i) : kKGet tab (.str s) h = .ok (.int i) h := by
  simp only [kKGet, e]
theorem kKGet_none {tab : List (Str × Int)} {s : Str} (e : tab.lookup s = none) : kKGet tab (.str s) h = .ok .non h := by
  simp only [kKGet, e]
theorem f_slT {xs : List EV} {lo hi : Option Int} (hw : ¬ (HT.sIx xs.length 0 lo = 0 ∧ HT.sIx xs.length xs.length hi = xs.length)) : fSlT (.tup xs) lo hi h = .ok (.tup (cutE xs lo hi)) h := by
  simp only [fSlT, if_pos hw]
theorem f_slT1 (x : EV) (xs : List EV) : fSlT (.tup (x :: xs)) (some 1) none h = .ok (.tup xs) h := by
  rw [f_slT]
  · have e1 : HT.sIx (x :: xs).length 0 (some 1) = 1 := by
      have := HT.sIx_nat (x :: xs).length 0 1
      rw [show (some 1 : Option Int) = some ((1 : Nat) : Int) from rfl, this]
      simp
    have e2 : HT.sIx (x :: xs).length (x :: xs).length none = (x :: xs).length := rfl
    unfold cutE
    rw [e1, e2]
    simp
  · have e1 : HT.sIx (x :: xs).length 0 (some 1) = 1 := by
      have := HT.sIx_nat (x :: xs).length 0 1
      rw [show (some 1 : Option Int) = some ((1 : Nat) : Int) from rfl, this]
      simp
    rw [e1]
    omega
end
end EE
set_option Elab.async false
set_option linter.all false
set_option maxRecDepth 100000
set_option maxHeartbeats 4000000
namespace LW
open PySem L2 EE
def b__law_start : DS :=
  (dSeq (dAsg (dC (.int 1)) (dName 1))
  (dSeq (dFor (dItL (dVar 0)) (dName 2)
  (dAsg (dOp fMod (dOp fAdd (dOp fAdd (dOp fMul (dVar 1) (dC (.int 48271))) (dVar 2)) (dC (.int 7))) (dC (.int 2147483647))) (dName 1)))
  (dRet (dLst (dCons (dVar 0) (dCons (dC (.int 0)) (dCons (dVar 1) (dCons (dC (.int 0)) dNil))))))))
def m__law_start : DL := dDef 1 3 b__law_start
theorem u__law_start (a0 : EV) (h : EH) : m__law_start [a0] h = (b__law_start [some a0, none, none] h).bind kDef := rfl
def b__law_drawn : DS :=
  (dSeq (dIfS (dB (dOp fGt (dOp fIx (dVar 0) (dC (.int 3))) (dC (.int 0)))) (dSeq (dAsg (dOp fMod (dOp fIx (dVar 0) (dC (.int 3))) (dVar 1)) (dName 2))
  (dSeq (dAsg (dOp fDiv (dOp fIx (dVar 0) (dC (.int 3))) (dVar 1)) (dGSub (dVar 0) (dC (.int 3)) sLst))
  (dRet (dVar 2))))
  dNext)
  (dSeq (dAsg (dOp fAdd (dOp fIx (dVar 0) (dC (.int 1))) (dC (.int 1))) (dGSub (dVar 0) (dC (.int 1)) sLst))
  (dSeq (dIfS (dB (dOp fLe (dOp fIx (dVar 0) (dC (.int 1))) (dCB fLen (dCons (dOp fIx (dVar 0) (dC (.int 0))) dNil)))) (dSeq (dAsg (dOp fIx (dOp fIx (dVar 0) (dC (.int 0))) (dOp fSub (dOp fIx (dVar 0) (dC (.int 1))) (dC (.int 1)))) (dName 3))
  (dSeq (dAsg (dIf (dB (dOp fGe (dVar 3) (dOp fPow (dC (.int 10)) (dC (.int 18))))) (dOp fDiv (dVar 3) (dVar 1)) (dC (.int 0))) (dGSub (dVar 0) (dC (.int 3)) sLst))
  (dRet (dOp fMod (dVar 3) (dVar 1)))))
  dNext)
  (dSeq (dAsg (dOp fMod (dOp fAdd (dOp fMul (dOp fIx (dVar 0) (dC (.int 2))) (dC (.int 48271))) (dC (.int 11))) (dC (.int 2147483647))) (dGSub (dVar 0) (dC (.int 2)) sLst))
  (dRet (dOp fMod (dOp fDiv (dOp fIx (dVar 0) (dC (.int 2))) (dC (.int 7))) (dVar 1)))))))
def m__law_drawn : DL := dDef 2 4 b__law_drawn
theorem u__law_drawn (a0 : EV) (a1 : EV) (h : EH) : m__law_drawn [a0, a1] h = (b__law_drawn [some a0, some a1, none, none] h).bind kDef := rfl
def b__law_same (rec : DL) : DS :=
  (dSeq (dIfS (dB (fIsi2 .tuple_ .list_ (dVar 1))) (dSeq (dIfS (dOr (dNot (dB (fIsi2 .tuple_ .list_ (dVar 0)))) (dB (dOp fNe (fIsi .list_ (dVar 0)) (fIsi .list_ (dVar 1))))) (dRet (dC (.bl false)))
  dNext)
  (dSeq (dIfS (dB (dOp fNe (dCB fLen (dCons (dVar 0) dNil)) (dCB fLen (dCons (dVar 1) dNil)))) (dRet (dC (.bl false)))
  dNext)
  (dRet (dOp fEq (dLc (dItR1 (dCons (dCB fLen (dCons (dVar 1) dNil)) dNil)) (dName 2) (dNot (dB (dCall rec (dCons (dOp fIx (dVar 0) (dVar 2)) (dCons (dOp fIx (dVar 1) (dVar 2)) dNil))))) (dVar 2) [2]) (dLst dNil)))))
  dNext)
  (dSeq (dIfS (dB (dOp (fIsN false) (dVar 1) (dC .non))) (dRet (dOp (fIsN false) (dVar 0) (dC .non)))
  dNext)
  (dSeq (dIfS (dB (fIsi .str_ (dVar 1))) (dRet (dAndV (fIsi .str_ (dVar 0)) (dOp fEq (dVar 0) (dVar 1))))
  dNext)
  (dSeq (dIfS (dOr (dB (fIsi .bool_ (dVar 1))) (dB (fIsi .bool_ (dVar 0)))) (dRet (dAndV (fIsi .bool_ (dVar 1)) (dAndV (fIsi .bool_ (dVar 0)) (dOp fEq (dVar 0) (dVar 1)))))
  dNext)
  (dRet (dAndV (fIsi .int_ (dVar 0)) (dOp fEq (dVar 0) (dVar 1))))))))
def m__law_same : Nat → DL
  | 0 => fun _ _ => .no
  | n + 1 => dDef 2 3 (b__law_same (m__law_same n))
theorem u__law_same (n : Nat) (a0 : EV) (a1 : EV) (h : EH) : m__law_same (n + 1) [a0, a1] h = (b__law_same (m__law_same n) [some a0, some a1, none] h).bind kDef := rfl
def b__law_ties : DS :=
  (dSeq (dAsg (dLst dNil) (dName 2))
  (dSeq (dFor (dItR1 (dCons (dCall m__law_drawn (dCons (dVar 0) (dCons (dOp fIx (dLst (dCons (dC (.int 3)) (dCons (dOp fAdd (dVar 1) (dC (.int 1))) (dCons (dOp fMul (dC (.int 3)) (dVar 1)) dNil)))) (dCall m__law_drawn (dCons (dVar 0) (dCons (dC (.int 3)) dNil)))) dNil))) dNil)) (dName 3)
  (dSeq (dAsg (dCall m__law_drawn (dCons (dVar 0) (dCons (dVar 1) dNil))) (dName 4))
  (dSeq (dAsg (dOp fMod (dOp fAdd (dOp fAdd (dVar 4) (dC (.int 1))) (dCall m__law_drawn (dCons (dVar 0) (dCons (dOp fSub (dVar 1) (dC (.int 1))) dNil)))) (dVar 1)) (dName 5))
  (dDrop (dBM mApp (dVar 2) (dCons (dTup (dCons (dVar 4) (dCons (dVar 5) dNil))) dNil))))))
  (dSeq (dIfS (dB (dOp fEq (dCall m__law_drawn (dCons (dVar 0) (dCons (dC (.int 3)) dNil))) (dC (.int 0)))) (dAsg (dOp fAdd (dVar 2) (dSl fSl (dLc (dItR1 (dCons (dOp fSub (dVar 1) (dC (.int 1))) dNil)) (dName 6) dYes (dTup (dCons (dVar 6) (dCons (dOp fAdd (dVar 6) (dC (.int 1))) dNil))) [6]) (dPart (some (dCall m__law_drawn (dCons (dVar 0) (dCons (dC (.int 2)) dNil))))) (dPart none))) (dName 2))
  dNext)
  (dRet (dVar 2)))))
def m__law_ties : DL := dDef 2 7 b__law_ties
theorem u__law_ties (a0 : EV) (a1 : EV) (h : EH) : m__law_ties [a0, a1] h = (b__law_ties [some a0, some a1, none, none, none, none, none] h).bind kDef := rfl
def b__law_near : DS :=
  (dRet (dLc (dItR1 (dCons (dVar 0) dNil)) (dName 2) dYes (dLc (dItR1 (dCons (dVar 0) dNil)) (dName 3) (dOr (dB (dOp fIn (dTup (dCons (dVar 2) (dCons (dVar 3) dNil))) (dVar 1))) (dB (dOp fIn (dTup (dCons (dVar 3) (dCons (dVar 2) dNil))) (dVar 1)))) (dVar 3) [3]) [2]))
def m__law_near : DL := dDef 2 4 b__law_near
theorem u__law_near (a0 : EV) (a1 : EV) (h : EH) : m__law_near [a0, a1] h = (b__law_near [some a0, some a1, none, none] h).bind kDef := rfl
def b_is_whole : DS :=
  (dSeq (dIfS (dOr (dB (fIsi .bool_ (dVar 0))) (dNot (dB (fIsi .int_ (dVar 0))))) (dRet (dC (.bl false)))
  dNext)
  (dRet (dChain fLe fLe (dVar 1) (dVar 0) (dVar 2))))
def m_is_whole : DL := dDef 3 3 b_is_whole
theorem u_is_whole (a0 : EV) (a1 : EV) (a2 : EV) (h : EH) : m_is_whole [a0, a1, a2] h = (b_is_whole [some a0, some a1, some a2] h).bind kDef := rfl
def b_is_two : DS :=
  (dSeq (dIfS (dOr (dNot (dB (fIsi .tuple_ (dVar 0)))) (dB (dOp fNe (dCB fLen (dCons (dVar 0) dNil)) (dC (.int 2))))) (dRet (dC (.bl false)))
  dNext)
  (dRet (dAndV (dCall m_is_whole (dCons (dOp fIx (dVar 0) (dC (.int 0))) (dCons (dC (.int 0)) (dCons (dVar 1) dNil)))) (dCall m_is_whole (dCons (dOp fIx (dVar 0) (dC (.int 1))) (dCons (dC (.int 0)) (dCons (dVar 2) dNil)))))))
def m_is_two : DL := dDef 3 3 b_is_two
theorem u_is_two (a0 : EV) (a1 : EV) (a2 : EV) (h : EH) : m_is_two [a0, a1, a2] h = (b_is_two [some a0, some a1, some a2] h).bind kDef := rfl
def b_is_pair : DS :=
  (dRet (dCall m_is_two (dCons (dVar 0) (dCons (dOp fSub (dVar 1) (dC (.int 1))) (dCons (dOp fSub (dVar 1) (dC (.int 1))) dNil)))))
def m_is_pair : DL := dDef 2 2 b_is_pair
theorem u_is_pair (a0 : EV) (a1 : EV) (h : EH) : m_is_pair [a0, a1] h = (b_is_pair [some a0, some a1] h).bind kDef := rfl
def b_check_count : DS :=
  (dIfS (dNot (dB (dCall m_is_whole (dCons (dVar 0) (dCons (dC (.int 2)) (dCons (dC (.int 8)) dNil)))))) dNever
  dNext)
def m_check_count : DL := dDef 1 1 b_check_count
theorem u_check_count (a0 : EV) (h : EH) : m_check_count [a0] h = (b_check_count [some a0] h).bind kDef := rfl
def b_check_house : DS :=
  (dIfS (dNot (dB (dCall m_is_whole (dCons (dVar 0) (dCons (dC (.int 0)) (dCons (dOp fSub (dVar 1) (dC (.int 1))) dNil)))))) dNever
  dNext)
def m_check_house : DL := dDef 2 2 b_check_house
theorem u_check_house (a0 : EV) (a1 : EV) (h : EH) : m_check_house [a0, a1] h = (b_check_house [some a0, some a1] h).bind kDef := rfl
def b__neighbours : DS :=
  (dSeq (dDrop (dCall m_check_count (dCons (dVar 0) dNil)))
  (dSeq (dFor (dItL (dVar 1)) (dName 2)
  (dIfS (dOr (dNot (dB (dCall m_is_pair (dCons (dVar 2) (dCons (dVar 0) dNil))))) (dB (dOp fEq (dOp fIx (dVar 2) (dC (.int 0))) (dOp fIx (dVar 2) (dC (.int 1)))))) dNever
  dNext))
  (dSeq (dAsg (dLc (dItR1 (dCons (dVar 0) dNil)) (dName 6) dYes (dLst dNil) [6]) (dName 3))
  (dSeq (dFor (dItL (dVar 1)) (dGTup 2 (dGCons (dName 4) (dGCons (dName 5) dGNil)))
  (dSeq (dDrop (dBM mApp (dOp fIx (dVar 3) (dVar 4)) (dCons (dVar 5) dNil)))
  (dDrop (dBM mApp (dOp fIx (dVar 3) (dVar 5)) (dCons (dVar 4) dNil)))))
  (dRet (dVar 3))))))
def m__neighbours : DL := dDef 2 7 b__neighbours
theorem u__neighbours (a0 : EV) (a1 : EV) (h : EH) : m__neighbours [a0, a1] h = (b__neighbours [some a0, some a1, none, none, none, none, none] h).bind kDef := rfl
end LW
set_option Elab.async false
set_option linter.all false
set_option maxRecDepth 100000
set_option maxHeartbeats 4000000
namespace LW
open PySem L2 EE
def StO (o : EO) : Prop := ∃ b x l : Int, o = .lst [.ref 0, .int b, .int x, .int l] ∧ 0 ≤ b ∧ 0 ≤ x ∧ x < 2147483647
def St (ns : List Int) (h : EH) (s : Nat) : Prop := ∃ o, h[s]? = some o ∧ StO o ∧ h[0]? = some (.ro (ns.map EV.int)) ∧ s ≠ 0
theorem St.set {ns : List Int} {h : EH} {s : Nat} {o : EO} (hs : St ns h s) (ho : StO o) : St ns (h.set s o) s := by
  obtain ⟨o', h1, h2, h3, h4⟩ := hs
  exact ⟨o, List.getElem?_set_self (List.getElem?_eq_some_iff.mp h1).1, ho, by rw [List.getElem?_set_ne h4]; exact h3, h4⟩
theorem St.lt {ns : List Int} {h : EH} {s : Nat} (hs : St ns h s) : s < h.length := by
  obtain ⟨o', h1, _⟩ := hs
  exact (List.getElem?_eq_some_iff.mp h1).1
theorem St.fr {ns : List Int} {h h' : EH} {s : Nat} (hs : St ns h s) (f : Fr [] h h') : St ns h' s := by
  obtain ⟨o', h1, h2, h3, h4⟩ := hs
  exact ⟨o', f.at h1 (by simp), h2, f.at h3 (by simp), h4⟩
theorem drawn {ns : List Int} {h : EH} {s : Nat} {m : Int} {Q : EV → EH → Prop} (hs : St ns h s) (h0 : 0 < m) (h1 : m ≤ 1000000000000000000) (q : ∀ (r : Int) o, 0 ≤ r → r < m → StO o → Q (.int r) (h.set s o)) : Tri (m__law_drawn [.ref s, .int m] h) Q := by
  obtain ⟨o, g1, ⟨b, x, l, rfl, hb, hx, hx2⟩, g3, g4⟩ := hs
  have hsl := (List.getElem?_eq_some_iff.mp g1).1
  have e : mutAt h s = some [.ref 0, .int b, .int x, .int l] := by unfold mutAt; rw [g1]
  have e' := lst_mut e
  have i3 : fIx (.ref s) (.int 3) h = .ok (.int l) h := f_ixL 3 e' 3 rfl rfl
  have i1 : fIx (.ref s) (.int 1) h = .ok (.int b) h := f_ixL 1 e' 1 rfl rfl
  have m64 : m < 18446744073709551616 := by omega
  rw [u__law_drawn]
  by_cases hl : 0 < l
  · simp [b__law_drawn, i3, hl, f_mod _ _ _ h0, f_div _ _ _ h0 m64, s_lst 3 e 3 rfl (by simp)]
    exact q _ _ (Int.emod_nonneg _ (by omega)) (Int.emod_lt_of_pos _ h0) ⟨b, x, l / m, rfl, hb, hx, hx2⟩
  · simp [b__law_drawn, i3, hl, i1, s_lst 1 e 1 rfl (by simp)]
    generalize eh1 : h.set s (.lst [.ref 0, .int (b + 1), .int x, .int l]) = h1
    have l1 : s < h1.length := by rw [← eh1, List.length_set]; exact hsl
    have e1 : mutAt h1 s = some [.ref 0, .int (b + 1), .int x, .int l] := by rw [← eh1]; exact mutAt_set hsl
    have e1' := lst_mut e1
    have es : lstAt h1 0 = some (ns.map EV.int) := by
      rw [← eh1, lstAt_ne g4]
      unfold lstAt
      rw [g3]
    have j1 : fIx (.ref s) (.int 1) h1 = .ok (.int (b + 1)) h1 := f_ixL 1 e1' 1 rfl rfl
    have j0 : fIx (.ref s) (.int 0) h1 = .ok (.ref 0) h1 := f_ixL 0 e1' 0 rfl rfl
    have j2 : fIx (.ref s) (.int 2) h1 = .ok (.int x) h1 := f_ixL 2 e1' 2 rfl rfl
    have hset : ∀ o, h1.set s o = h.set s o := fun o => by rw [← eh1, List.set_set]
    by_cases hn : b + 1 ≤ (ns.length : Int)
    · obtain ⟨k, rfl⟩ := Int.eq_ofNat_of_zero_le hb
      have hk : k < ns.length := by omega
      have jc : fIx (.ref 0) (.int (k : Int)) h1 = .ok (.int ns[k]) h1 := f_ixL _ es k rfl (by rw [List.getElem?_map, List.getElem?_eq_getElem hk]; rfl)
      by_cases hc : 1000000000000000000 ≤ ns[k]
      · simp [j0, j1, f_len es, hn, jc, hc, f_div _ _ _ h0 m64, s_lst 3 e1 3 rfl (by simp), f_mod _ _ _ h0, hset]
        exact q _ _ (Int.emod_nonneg _ (by omega)) (Int.emod_lt_of_pos _ h0) ⟨_, _, _, rfl, by omega, hx, hx2⟩
      · simp [j0, j1, f_len es, hn, jc, hc, f_div _ _ _ h0 m64, s_lst 3 e1 3 rfl (by simp), f_mod _ _ _ h0, hset]
        exact q _ _ (Int.emod_nonneg _ (by omega)) (Int.emod_lt_of_pos _ h0) ⟨_, _, _, rfl, by omega, hx, hx2⟩
    · simp [j0, j1, j2, f_len es, hn, f_mul _ _ _ (show -18446744073709551616 < (48271 : Int) by decide) (by decide), f_mod _ _ _ (show (0 : Int) < 2147483647 by decide), s_lst 2 e1 2 rfl (by simp)]
      have hx0 : 0 ≤ (x * 48271 + 11) % 2147483647 := Int.emod_nonneg _ (by decide)
      have hx1 : (x * 48271 + 11) % 2147483647 < 2147483647 := Int.emod_lt_of_pos _ (by decide)
      generalize (x * 48271 + 11) % 2147483647 = x' at hx0 hx1
      rw [hset]
      have k2 : fIx (.ref s) (.int 2) (h.set s (.lst [.ref 0, .int (b + 1), .int x', .int l])) = .ok (.int x') (h.set s (.lst [.ref 0, .int (b + 1), .int x', .int l])) := f_ixL 2 (lstAt_set hsl) 2 rfl rfl
      simp [k2, f_div _ _ _ (show (0 : Int) < 7 by decide) (by decide), f_mod _ _ _ h0]
      exact q _ _ (Int.emod_nonneg _ (by omega)) (Int.emod_lt_of_pos _ h0) ⟨_, _, _, rfl, by omega, hx0, hx1⟩
theorem drawnF {ns : List Int} {h : EH} {s : Nat} {m : Int} {Q : EV → EH → Prop} (hs : St ns h s) (h0 : 0 < m) (h1 : m ≤ 1000000000000000000) (q : ∀ (r : Int) h', 0 ≤ r → r < m → St ns h' s → Fr [s] h h' → h'.length = h.length → Q (.int r) h') : Tri (m__law_drawn [.ref s, .int m] h) Q :=
  drawn hs h0 h1 fun r o a b ho => q r _ a b (hs.set ho) ((Fr.refl _ _).set (.inl (by simp))) (List.length_set ..)
theorem start {ns : List Int} {h : EH} {Q : EV → EH → Prop} (hs : h[0]? = some (.ro (ns.map EV.int))) (q : ∀ h', St ns h' h.length → Fr [] h h' → Q (.ref h.length) h') : Tri (m__law_start [.ref 0] h) Q := by
  have es : lstAt h 0 = some (ns.map EV.int) := by
    unfold lstAt
    rw [hs]
  rw [u__law_start]
  simp [b__law_start, kItL_ref es, tri_bind]
  refine tri_for (xs := ns.map EV.int) (fun i es' h' => h' = h ∧ ∃ x c, es' = [some (.ref 0), some (.int x), c] ∧ 0 ≤ x ∧ x < 2147483647) ⟨rfl, 1, none, rfl, by decide, by decide⟩ (fun i es' h' ⟨e, _⟩ => by subst e; exact es) ?_ ?_
  · rintro i v es' h' K hv ⟨rfl, x, c, rfl, hx, hx2⟩ hK _ _ _
    rw [List.getElem?_map] at hv
    obtain ⟨n, hn, rfl⟩ := Option.map_eq_some_iff.mp hv
    simp [f_mul _ _ _ (show -18446744073709551616 < (48271 : Int) by decide) (by decide), f_mod _ _ _ (show (0 : Int) < 2147483647 by decide)]
    exact hK _ _ ⟨rfl, _, _, rfl, Int.emod_nonneg _ (by decide), Int.emod_lt_of_pos _ (by decide)⟩
  · rintro es' h' ⟨rfl, x, c, rfl, hx, hx2⟩
    simp
    refine q _ ⟨_, by simp, ⟨0, x, 0, rfl, by decide, hx, hx2⟩, ?_, ?_⟩ (Fr.app _ _ _)
    · rw [List.getElem?_append_left (List.getElem?_eq_some_iff.mp hs).1]
      exact hs
    · have := (List.getElem?_eq_some_iff.mp hs).1
      omega
end LW
set_option Elab.async false
set_option linter.all false
set_option maxRecDepth 100000
set_option maxHeartbeats 4000000
namespace LW
open PySem L2 EE
mutual
def Dt (h : EH) : PyData → EV → Prop
  | .none, x => x = .non
  | .bool b, x => x = .bl b
  | .int i, x => x = .int i
  | .str s, x => x = .str s
  | .list ds, x => ∃ n xs, x = .ref n ∧ lstAt h n = some xs ∧ Dts h ds xs
  | .tuple ds, x => ∃ xs, x = .tup xs ∧ Dts h ds xs
  | .dict _, _ => False
def Dts (h : EH) : List PyData → List EV → Prop
  | [], xs => xs = []
  | d :: ds, xs => ∃ x r, xs = x :: r ∧ Dt h d x ∧ Dts h ds r
end
mutual
theorem Dt.fr {h h' : EH} (f : Fr [] h h') : ∀ (d : PyData) (x : EV), Dt h d x → Dt h' d x
  | .none, x, e => by simp only [Dt] at e ⊢; exact e
  | .bool b, x, e => by simp only [Dt] at e ⊢; exact e
  | .int b, x, e => by simp only [Dt] at e ⊢; exact e
  | .str b, x, e => by simp only [Dt] at e ⊢; exact e
  | .list ds, x, e => by
    simp only [Dt] at e ⊢
    obtain ⟨n, xs, e1, e2, e3⟩ := e
    exact ⟨n, xs, e1, f.lst e2 (by simp), Dts.fr f ds xs e3⟩
  | .tuple ds, x, e => by
    simp only [Dt] at e ⊢
    obtain ⟨xs, e1, e3⟩ := e
    exact ⟨xs, e1, Dts.fr f ds xs e3⟩
  | .dict _, x, e => by simp only [Dt] at e
theorem Dts.fr {h h' : EH} (f : Fr [] h h') : ∀ (d : List PyData) (x : List EV), Dts h d x → Dts h' d x
  | [], x, e => by simp only [Dts] at e ⊢; exact e
  | d :: ds, x, e => by
    simp only [Dts] at e ⊢
    obtain ⟨y, r, e1, e2, e3⟩ := e
    exact ⟨y, r, e1, Dt.fr f d y e2, Dts.fr f ds r e3⟩
end
theorem Dts.length {h : EH} : ∀ {ds : List PyData} {xs : List EV}, Dts h ds xs → xs.length = ds.length
  | [], xs, e => by simp only [Dts] at e; subst e; rfl
  | d :: ds, xs, e => by
    simp only [Dts] at e
    obtain ⟨x, r, rfl, _, e3⟩ := e
    simp [Dts.length e3]
theorem Dts.get {h : EH} : ∀ {ds : List PyData} {xs : List EV} {i : Nat} {d : PyData}, Dts h ds xs → ds[i]? = some d → ∃ x, xs[i]? = some x ∧ Dt h d x
  | [], xs, i, d, e, he => by simp at he
  | d :: ds, xs, 0, d', e, he => by
    simp only [Dts] at e
    obtain ⟨x, r, rfl, e2, e3⟩ := e
    simp only [List.getElem?_cons_zero, Option.some.injEq] at he
    subst he
    exact ⟨x, rfl, e2⟩
  | d :: ds, xs, i + 1, d', e, he => by
    simp only [Dts] at e
    obtain ⟨x, r, rfl, e2, e3⟩ := e
    simp only [List.getElem?_cons_succ] at he ⊢
    exact Dts.get e3 he
theorem depth_get : ∀ {ds : List PyData} {i : Nat} {d : PyData}, ds[i]? = some d → d.depth ≤ PyData.depthAll ds
  | [], i, d, he => by simp at he
  | d :: ds, 0, d', he => by
    simp only [List.getElem?_cons_zero, Option.some.injEq] at he
    subst he
    simp only [PyData.depthAll]
    omega
  | d :: ds, i + 1, d', he => by
    simp only [List.getElem?_cons_succ] at he
    have := depth_get he
    simp only [PyData.depthAll]
    omega
theorem f_eqNil {h : EH} {a b : Nat} (ha : lstAt h a = some []) (hb : lstAt h b = some []) : fEq (.ref a) (.ref b) h = .ok (.bl true) h := by
  show (Res.no).orElse _ = _
  simp only [orE_no]
  have key : ∀ k, lstAt h k = some [] → dat h (.ref k) = some (.list []) := fun k hk => by
    unfold dat
    simp only [dat0, datF, hk, dat0s, Option.map_some]
  simp only [fEqD, key a ha, key b hb]
  rfl
theorem rng_at {n i : Nat} {x : EV} (h : (rng 0 n)[i]? = some x) : i < n ∧ x = .int (i : Int) := by
  obtain ⟨h1, h2⟩ := rng_get h
  exact ⟨h1, by rw [h2]; congr 1; omega⟩
mutual
def sm : PyData → Bool
  | .none => true
  | .bool _ => true
  | .int _ => true
  | .str _ => true
  | .list ds => decide (ds.length < 40000) && sms ds
  | .tuple ds => decide (ds.length < 40000) && sms ds
  | .dict _ => false
def sms : List PyData → Bool
  | [] => true
  | d :: ds => sm d && sms ds
end
theorem sm_get : ∀ {ds : List PyData} {i : Nat} {d : PyData}, sms ds = true → ds[i]? = some d → sm d = true
  | [], i, d, _, he => by simp at he
  | d :: ds, 0, d', hs, he => by
    simp only [List.getElem?_cons_zero, Option.some.injEq] at he
    subst he
    simp only [sms, Bool.and_eq_true] at hs
    exact hs.1
  | d :: ds, i + 1, d', hs, he => by
    simp only [List.getElem?_cons_succ] at he
    simp only [sms, Bool.and_eq_true] at hs
    exact sm_get hs.2 he
theorem same_comp {rec : DL} {h : EH} {ds : List PyData} {X Y : EV} {xs ys : List EV} (hx : Dts h ds xs) (hy : Dts h ds ys) (hl : ds.length < 40000)
    (ix : ∀ h', Fr [] h h' → ∀ (i : Nat) (x : EV), xs[i]? = some x → fIx X (.int (i : Int)) h' = .ok x h') (iy : ∀ h', Fr [] h h' → ∀ (i : Nat) (x : EV), ys[i]? = some x → fIx Y (.int (i : Int)) h' = .ok x h')
    (ih : ∀ h', Fr [] h h' → ∀ (i : Nat) (d : PyData) (x y : EV), ds[i]? = some d → Dt h' d x → Dt h' d y → Tri (rec [x, y] h') fun v h2 => v = .bl true ∧ Fr [] h' h2)
    {Q : EV → EH → Prop} (q : ∀ k h', lstAt h' k = some [] → Fr [] h h' → Q (.ref k) h') :
    Tri (kLc (dName 2) (dNot (dB (dCall rec (dCons (dOp fIx (dVar 0) (dVar 2)) (dCons (dOp fIx (dVar 1) (dVar 2)) dNil))))) (dVar 2) [2] [some X, some Y, none] ⟨none, rng 0 (ds.length : Int).toNat, fun _ x => x⟩ h) Q := by
  refine tri_lcP (xs := rng 0 (ds.length : Int).toNat) (fun _ => false) (fun _ => .non) (by rw [rng_len]; omega) (fun h' _ => rfl) (fun i x h' K hxi hf hK => ?_) (fun _ _ _ _ _ _ hp _ => by cases hp) fun h' hf => ?_
  · obtain ⟨h1, rfl⟩ := rng_at hxi
    have hi : i < ds.length := by omega
    obtain ⟨x, e1, e2⟩ := hx.get (List.getElem?_eq_getElem hi)
    obtain ⟨y, e3, e4⟩ := hy.get (List.getElem?_eq_getElem hi)
    simp [wip, ix h' hf i x e1, iy h' hf i y e3, tri_bind]
    refine (ih h' hf i _ x y (List.getElem?_eq_getElem hi) (Dt.fr hf _ _ e2) (Dt.fr hf _ _ e4)).mono ?_
    rintro v h2 ⟨rfl, f2⟩
    exact hK _ f2
  · refine q _ _ ?_ (hf.trans (Fr.app _ _ _))
    rw [gvn_false]
    simp
theorem same : ∀ (n : Nat) (d : PyData) (x y : EV) (h : EH), Dt h d x → Dt h d y → d.depth < n → sm d = true → Tri (m__law_same n [x, y] h) fun v h' => v = .bl true ∧ Fr [] h h'
  | 0, d, x, y, h, _, _, hd, _ => by omega
  | n + 1, .none, x, y, h, hx, hy, hd, _ => by
    simp only [Dt] at hx hy
    subst hx hy
    rw [u__law_same]
    simp [b__law_same, Ty.isa, Fr.refl]
  | n + 1, .bool b, x, y, h, hx, hy, hd, _ => by
    simp only [Dt] at hx hy
    subst hx hy
    rw [u__law_same]
    simp [b__law_same, Ty.isa, Fr.refl]
  | n + 1, .int b, x, y, h, hx, hy, hd, _ => by
    simp only [Dt] at hx hy
    subst hx hy
    rw [u__law_same]
    simp [b__law_same, Ty.isa, Fr.refl]
  | n + 1, .str b, x, y, h, hx, hy, hd, _ => by
    simp only [Dt] at hx hy
    subst hx hy
    rw [u__law_same]
    simp [b__law_same, Ty.isa, Fr.refl]
  | n + 1, .dict _, x, y, h, hx, hy, hd, _ => by simp only [Dt] at hx
  | n + 1, .tuple ds, x, y, h, hx, hy, hd, hs => by
    simp only [Dt] at hx hy
    obtain ⟨xs, rfl, hx⟩ := hx
    obtain ⟨ys, rfl, hy⟩ := hy
    simp only [sm, Bool.and_eq_true, decide_eq_true_eq] at hs
    rw [u__law_same]
    simp [b__law_same, Ty.isa, Fr.refl, hx.length, hy.length, ap_kItR1 h (ds.length : Int) (by omega) (by omega), tri_bind]
    refine same_comp hx hy hs.1 (fun h' _ i x e => f_ixT _ i rfl e) (fun h' _ i x e => f_ixT _ i rfl e) (fun h' hf i d x y hd2 h1 h2 => same n d x y h' h1 h2 (by have := depth_get hd2; simp only [PyData.depth] at hd; omega) (sm_get hs.2 hd2)) fun k h' hk hf => ?_
    simp [f_eqNil (lstAt_app hk) lstAt_new, hf.trans (Fr.app _ _ _)]
  | n + 1, .list ds, x, y, h, hx, hy, hd, hs => by
    simp only [Dt] at hx hy
    obtain ⟨a, xs, rfl, hxs, hx⟩ := hx
    obtain ⟨b, ys, rfl, hys, hy⟩ := hy
    simp only [sm, Bool.and_eq_true, decide_eq_true_eq] at hs
    rw [u__law_same]
    simp [b__law_same, Ty.isa, Fr.refl, hx.length, hy.length, kIsi2_lst _ _ hxs, kIsi2_lst _ _ hys, kIsi_lst _ hxs, kIsi_lst _ hys, f_len hxs, f_len hys, ap_kItR1 h (ds.length : Int) (by omega) (by omega), tri_bind]
    refine same_comp hx hy hs.1 (fun h' f i x e => f_ixL _ (f.lst hxs (by simp)) i rfl e) (fun h' f i x e => f_ixL _ (f.lst hys (by simp)) i rfl e) (fun h' hf i d x y hd2 h1 h2 => same n d x y h' h1 h2 (by have := depth_get hd2; simp only [PyData.depth] at hd; omega) (sm_get hs.2 hd2)) fun k h' hk hf => ?_
    simp [f_eqNil (lstAt_app hk) lstAt_new, hf.trans (Fr.app _ _ _)]
end LW
set_option Elab.async false
set_option linter.all false
set_option maxRecDepth 100000
set_option maxHeartbeats 4000000
namespace WW
open PySem L2 EE
def b_suite (c : Nat) (a : Addr) (d : Option Addr) : DS :=
  (dSeq (dAsg (dLst (dCons (dIsX a d 1 (decide (c = 20))) (dCons (dIsX a d 1 (decide (c = 21))) (dCons (dIsX a d 1 (decide (c = 22))) (dCons (dIsX a d 1 (decide (c = 23))) dNil))))) (dName 2))
  (dSeq (dAsg (dOp fAdd (dVar 2) (dLst (dCons (dIsX a d 1 (decide (c = 24))) (dCons (dIsX a d 1 (decide (c = 25))) (dCons (dIsX a d 1 (decide (c = 26))) (dCons (dIsX a d 1 (decide (c = 27))) dNil)))))) (dName 2))
  (dSeq (dAsg (dOp fAdd (dVar 2) (dLst (dCons (dIsX a d 1 (decide (c = 28))) (dCons (dIsX a d 1 (decide (c = 29))) dNil)))) (dName 2))
  (dSeq (dAsg (dLst (dCons (dC (.str "BadHouse")) (dCons (dC (.str "BadDay")) (dCons (dC (.str "BadWorth")) (dCons (dC (.str "BadLife")) (dCons (dC (.str "NotOwn")) (dCons (dC (.str "BadLetter")) (dCons (dC (.str "BadTies")) (dCons (dC (.str "NoWay")) (dCons (dC (.str "BadRow")) dNil)))))))))) (dName 3))
  (dSeq (dDrop (dBM mApp (dVar 3) (dCons (dC (.str "BadText")) dNil)))
  (dSeq (dIfS (dOr (dB (dOp fNe (dBM mCntB (dVar 2) (dCons (dC (.bl true)) dNil)) (dC (.int 1)))) (dNot (dB (dIsX a d 1 true)))) (dRet (dTup (dCons (dC (.str "other")) (dCons (dC (.int 0)) dNil))))
  dNext)
  (dSeq (dAsg (dOp fIx (dVar 3) (dBM mIdxB (dVar 2) (dCons (dC (.bl true)) dNil))) (dName 4))
  (dRet (dTup (dCons (dVar 4) (dCons (dIf (dB (dOp fEq (dVar 4) (dC (.str "BadRow")))) (if c = 28 then dXf a d 1 "number" else dNoE) (dIf (dB (dOp fEq (dVar 4) (dC (.str "BadText")))) (if c = 29 then dXf a d 1 "row" else dNoE) (dC (.int 0)))) dNil)))))))))))
end WW
set_option Elab.async false
set_option linter.all false
set_option maxRecDepth 100000
set_option maxHeartbeats 1000000
namespace EE
open PySem L2
section
variable (es : ES) (h : EH)
@[simp] theorem ap_callX (f : DL) (a : DA) : dCallX f a es h = (a es h).bind f := rfl
@[simp] theorem ap_rev (a : DE) : dRev a es h = (a es h).bind fRev := rfl
theorem f_rev {h : EH} {n : Nat} {xs : List EV} (e : lstAt h n = some xs) : fRev (.ref n) h = .ok (.ref h.length) (h ++ [.lst xs.reverse]) := by
  simp only [fRev, e]
theorem ap_isX (a : Addr) (d : Option Addr) (i : Nat) (b : Bool) {nm : List Str} {fs : List EV} (e : es[i]? = some (some (.exc a d nm fs))) : dIsX a d i b es h = .ok (.bl b) h := by
  simp [dIsX, e]
theorem ap_xf (a d : Addr) (i : Nat) (f : Str) {x : EV} (e : es[i]? = some (some (.exc a (some d) [f] [x]))) : dXf a (some d) i f es h = .ok x h := by
  simp [dXf, e]
def kRaiseN (c : Nat) (c1 c2 : Str) : EV → EH → Res Flw := fun x h1 => match x with
  | .int i => if i.natAbs.log2 < 1920 ∧ ((Str.empty ++ c1) ++ toString i).length + c2.length ≤ 100000 then .er ⟨c, [.int i]⟩ h1 else .no
  | _ => .no
@[simp] theorem ap_raiseN (c : Nat) (c1 c2 : Str) (a : DE) : dRaiseN c c1 c2 a es h = (a es h).bind (kRaiseN c c1 c2) := rfl
@[simp] theorem ap_raise (c : Nat) : dRaise c es h = .er ⟨c, []⟩ h := rfl
def kAllIn (iD : Nat) (es : ES) : EV → EH → Res EV := fun v h1 => match v, es[iD]? with
  | .ref n, some (some (.ref m)) => match lstAt h1 n, dicAt h1 m with
    | some ws, some (false, kvs) => match inAllE kvs ws with
      | some b => .ok (.bl b) h1
      | none => .no
    | _, _ => .no
  | .ref n, some (some (.tup ys)) => match lstAt h1 n with
    | some ws => match intsE ws, intsE ys with
      | some l, some m => .ok (.bl (l.all fun i => decide (i ∈ m))) h1
      | _, _ => .no
    | none => .no
  | _, _ => .no
@[simp] theorem ap_allIn (iD : Nat) (d : DE) : dAllIn iD d es h = (d es h).bind (kAllIn iD es) := rfl
end
theorem word_ok {rs : Nat → List EV → EH → Option (EV × EH)} {d : DE} {es : ES} {h h' : EH} {v : EV} (e : d es h = .ok v h') : dWord rs d es h = .ok v h' := by
  unfold dWord; rw [e]
theorem word_er {rs : Nat → List EV → EH → Option (EV × EH)} {d : DE} {es : ES} {h h1 h2 : EH} {x : Exn} {v : EV} (e : d es h = .er x h1) (q : rs x.c x.fs h1 = some (v, h2)) : dWord rs d es h = .ok v h2 := by
  unfold dWord; rw [e]; simp only [q]
end EE
set_option Elab.async false
set_option linter.all false
set_option maxRecDepth 100000
set_option maxHeartbeats 4000000
namespace WW
open PySem L2 EE
def kind (c lo n : Nat) : List EV := (List.range n).map fun i => .bl (decide (c = lo + i))
def words : List EV := [.str "BadHouse", .str "BadDay", .str "BadWorth", .str "BadLife", .str "NotOwn", .str "BadLetter", .str "BadTies", .str "NoWay", .str "BadRow", .str "BadText"]
def junk (c : Nat) : EH := [.lst (kind c 20 4), .lst (kind c 24 4), .lst (kind c 20 8), .lst (kind c 28 2), .lst (kind c 20 10), .lst words]
section
variable (h t : EH) (k : Nat)
theorem lst_at : lstAt (h ++ t) (h.length + k) = lstAt t k := by
  unfold lstAt
  rw [List.getElem?_append_right (by omega)]
  simp
theorem lst_at0 : lstAt (h ++ t) h.length = lstAt t 0 := lst_at h t 0
theorem mut_at : mutAt (h ++ t) (h.length + k) = mutAt t k := by
  unfold mutAt
  rw [List.getElem?_append_right (by omega)]
  simp
theorem set_at (o : EO) : (h ++ t).set (h.length + k) o = h ++ t.set k o := by
  rw [List.set_append_right _ _ (by omega)]
  simp
theorem add_at (m n : Nat) : fAdd (.ref (h.length + m)) (.ref (h.length + n)) (h ++ t) = match mutAt t m, mutAt t n with
    | some xs, some ys => if xs.length + ys.length ≤ 100000 then .ok (.ref (h.length + t.length)) (h ++ (t ++ [.lst (xs ++ ys)])) else .no
    | _, _ => .no := by
  show (Res.no).orElse _ = _
  simp only [orE_no, fCat, mut_at, List.length_append, List.append_assoc]
  all_goals (cases mutAt t m <;> cases mutAt t n <;> rfl)
theorem add_at0 (n : Nat) : fAdd (.ref h.length) (.ref (h.length + n)) (h ++ t) = match mutAt t 0, mutAt t n with
    | some xs, some ys => if xs.length + ys.length ≤ 100000 then .ok (.ref (h.length + t.length)) (h ++ (t ++ [.lst (xs ++ ys)])) else .no
    | _, _ => .no := add_at h t 0 n
end
theorem suite20 (a : Addr) (h : EH) : b_suite 20 a none [none, some (.exc a none [] []), none, none, none] h = .ok (.rt (.tup [.str "BadHouse", .int 0])) (h ++ junk 20) := by
  simp [b_suite, dSeq, dAsg, dIsX, dLst, dCons, add_at, add_at0, lst_at, lst_at0, mut_at, set_at, lstAt, mutAt, kBM, mApp, mCntB, mIdxB, boolsE, trueAt, kIfS]
  rw [f_ixL (i := (0 : Int)) (h := _) (xs := words) (v := .str "BadHouse") (by rw [lst_at]; rfl) 0 rfl rfl]
  simp [dXf]
  first | rfl | decide
theorem suite21 (a : Addr) (h : EH) : b_suite 21 a none [none, some (.exc a none [] []), none, none, none] h = .ok (.rt (.tup [.str "BadDay", .int 0])) (h ++ junk 21) := by
  simp [b_suite, dSeq, dAsg, dIsX, dLst, dCons, add_at, add_at0, lst_at, lst_at0, mut_at, set_at, lstAt, mutAt, kBM, mApp, mCntB, mIdxB, boolsE, trueAt, kIfS]
  rw [f_ixL (i := (1 : Int)) (h := _) (xs := words) (v := .str "BadDay") (by rw [lst_at]; rfl) 1 rfl rfl]
  simp [dXf]
  first | rfl | decide
theorem suite22 (a : Addr) (h : EH) : b_suite 22 a none [none, some (.exc a none [] []), none, none, none] h = .ok (.rt (.tup [.str "BadWorth", .int 0])) (h ++ junk 22) := by
  simp [b_suite, dSeq, dAsg, dIsX, dLst, dCons, add_at, add_at0, lst_at, lst_at0, mut_at, set_at, lstAt, mutAt, kBM, mApp, mCntB, mIdxB, boolsE, trueAt, kIfS]
  rw [f_ixL (i := (2 : Int)) (h := _) (xs := words) (v := .str "BadWorth") (by rw [lst_at]; rfl) 2 rfl rfl]
  simp [dXf]
  first | rfl | decide
theorem suite23 (a : Addr) (h : EH) : b_suite 23 a none [none, some (.exc a none [] []), none, none, none] h = .ok (.rt (.tup [.str "BadLife", .int 0])) (h ++ junk 23) := by
  simp [b_suite, dSeq, dAsg, dIsX, dLst, dCons, add_at, add_at0, lst_at, lst_at0, mut_at, set_at, lstAt, mutAt, kBM, mApp, mCntB, mIdxB, boolsE, trueAt, kIfS]
  rw [f_ixL (i := (3 : Int)) (h := _) (xs := words) (v := .str "BadLife") (by rw [lst_at]; rfl) 3 rfl rfl]
  simp [dXf]
  first | rfl | decide
theorem suite24 (a : Addr) (h : EH) : b_suite 24 a none [none, some (.exc a none [] []), none, none, none] h = .ok (.rt (.tup [.str "NotOwn", .int 0])) (h ++ junk 24) := by
  simp [b_suite, dSeq, dAsg, dIsX, dLst, dCons, add_at, add_at0, lst_at, lst_at0, mut_at, set_at, lstAt, mutAt, kBM, mApp, mCntB, mIdxB, boolsE, trueAt, kIfS]
  rw [f_ixL (i := (4 : Int)) (h := _) (xs := words) (v := .str "NotOwn") (by rw [lst_at]; rfl) 4 rfl rfl]
  simp [dXf]
  first | rfl | decide
theorem suite25 (a : Addr) (h : EH) : b_suite 25 a none [none, some (.exc a none [] []), none, none, none] h = .ok (.rt (.tup [.str "BadLetter", .int 0])) (h ++ junk 25) := by
  simp [b_suite, dSeq, dAsg, dIsX, dLst, dCons, add_at, add_at0, lst_at, lst_at0, mut_at, set_at, lstAt, mutAt, kBM, mApp, mCntB, mIdxB, boolsE, trueAt, kIfS]
  rw [f_ixL (i := (5 : Int)) (h := _) (xs := words) (v := .str "BadLetter") (by rw [lst_at]; rfl) 5 rfl rfl]
  simp [dXf]
  first | rfl | decide
theorem suite26 (a : Addr) (h : EH) : b_suite 26 a none [none, some (.exc a none [] []), none, none, none] h = .ok (.rt (.tup [.str "BadTies", .int 0])) (h ++ junk 26) := by
  simp [b_suite, dSeq, dAsg, dIsX, dLst, dCons, add_at, add_at0, lst_at, lst_at0, mut_at, set_at, lstAt, mutAt, kBM, mApp, mCntB, mIdxB, boolsE, trueAt, kIfS]
  rw [f_ixL (i := (6 : Int)) (h := _) (xs := words) (v := .str "BadTies") (by rw [lst_at]; rfl) 6 rfl rfl]
  simp [dXf]
  first | rfl | decide
theorem suite27 (a : Addr) (h : EH) : b_suite 27 a none [none, some (.exc a none [] []), none, none, none] h = .ok (.rt (.tup [.str "NoWay", .int 0])) (h ++ junk 27) := by
  simp [b_suite, dSeq, dAsg, dIsX, dLst, dCons, add_at, add_at0, lst_at, lst_at0, mut_at, set_at, lstAt, mutAt, kBM, mApp, mCntB, mIdxB, boolsE, trueAt, kIfS]
  rw [f_ixL (i := (7 : Int)) (h := _) (xs := words) (v := .str "NoWay") (by rw [lst_at]; rfl) 7 rfl rfl]
  simp [dXf]
  first | rfl | decide
theorem suite28 (a d : Addr) (x : EV) (h : EH) : b_suite 28 a (some d) [none, some (.exc a (some d) ["number"] [x]), none, none, none] h = .ok (.rt (.tup [.str "BadRow", x])) (h ++ junk 28) := by
  simp [b_suite, dSeq, dAsg, dIsX, dLst, dCons, add_at, add_at0, lst_at, lst_at0, mut_at, set_at, lstAt, mutAt, kBM, mApp, mCntB, mIdxB, boolsE, trueAt, kIfS]
  rw [f_ixL (i := (8 : Int)) (h := _) (xs := words) (v := .str "BadRow") (by rw [lst_at]; rfl) 8 rfl rfl]
  simp [dXf]
  first | rfl | decide
theorem suite29 (a d : Addr) (x : EV) (h : EH) : b_suite 29 a (some d) [none, some (.exc a (some d) ["row"] [x]), none, none, none] h = .ok (.rt (.tup [.str "BadText", x])) (h ++ junk 29) := by
  simp [b_suite, dSeq, dAsg, dIsX, dLst, dCons, add_at, add_at0, lst_at, lst_at0, mut_at, set_at, lstAt, mutAt, kBM, mApp, mCntB, mIdxB, boolsE, trueAt, kIfS]
  rw [f_ixL (i := (9 : Int)) (h := _) (xs := words) (v := .str "BadText") (by rw [lst_at]; rfl) 9 rfl rfl]
  simp [dXf]
  first | rfl | decide
end WW
set_option Elab.async false
set_option linter.all false
set_option maxRecDepth 100000
set_option maxHeartbeats 4000000
namespace K14
open PySem L2 EE
def tab_COUNTS : List (Str × Int) := [("write", 3), ("back", 2), ("day", 2), ("days", 1), ("tie", 2), ("untie", 2), ("send", 1), ("carry", 1), ("lose", 1), ("twice", 1), ("settle", 0)]
def b_written : DS :=
  (dRet (dSM1 mJoin (dC (.str "\n")) (dLc (dItL (dVar 0)) (dName 1) dYes (dSM1 mJoin (dC (.str " ")) (dLc (dItT (dVar 1)) (dName 2) dYes (dCB fStr (dCons (dVar 2) dNil)) [2])) [1])))
def m_written : DL := dDef 1 3 b_written
theorem u_written (a0 : EV) (h : EH) : m_written [a0] h = (b_written [some a0, none, none] h).bind kDef := rfl
def b__law_play : DS :=
  (dSeq (dAsg (dDisp [((dC (.str "write")), (dC (.int 3))), ((dC (.str "back")), (dC (.int 2))), ((dC (.str "day")), (dC (.int 2))), ((dC (.str "days")), (dC (.int 1))), ((dC (.str "tie")), (dC (.int 2))), ((dC (.str "untie")), (dC (.int 2))), ((dC (.str "send")), (dC (.int 1))), ((dC (.str "carry")), (dC (.int 1))), ((dC (.str "lose")), (dC (.int 1)))]) (dName 1))
  (dSeq (dDrop (dBMD mUpdK (dVar 1) (dCons (dDisp [((dC (.str "twice")), (dC (.int 1))), ((dC (.str "settle")), (dC (.int 0)))]) dNil)))
  (dSeq (dAsg (dLst dNil) (dName 2))
  (dSeq (dFor (dItR1 (dCons (dCall LW.m__law_drawn (dCons (dVar 0) (dCons (dC (.int 21)) dNil))) dNil)) (dName 3)
  (dSeq (dAsg (dOp fIx (dCB fSortK (dCons (dVar 1) dNil)) (dCall LW.m__law_drawn (dCons (dVar 0) (dCons (dC (.int 11)) dNil)))) (dName 4))
  (dSeq (dAsg (dLc (dItR1 (dCons (dOp fDGet (dVar 1) (dVar 4)) dNil)) (dName 6) dYes (dCall LW.m__law_drawn (dCons (dVar 0) (dCons (dOp fIx (dLst (dCons (dC (.int 3)) (dCons (dC (.int 10)) (dCons (dC (.int 100000)) dNil)))) (dCall LW.m__law_drawn (dCons (dVar 0) (dCons (dC (.int 3)) dNil)))) dNil))) [6]) (dName 5))
  (dDrop (dBM mApp (dVar 2) (dCons (dCB fTupL (dCons (dOp fAdd (dLst (dCons (dVar 4) dNil)) (dVar 5)) dNil)) dNil))))))
  (dRet (dVar 2))))))
def m__law_play : DL := dDef 1 7 b__law_play
theorem u__law_play (a0 : EV) (h : EH) : m__law_play [a0] h = (b__law_play [some a0, none, none, none, none, none, none] h).bind kDef := rfl
def b__law_spoilt : DS :=
  (dSeq (dPar 2 3 (dCons (dCall LW.m__law_drawn (dCons (dVar 0) (dCons (dC (.int 9)) dNil))) (dCons (dOp fIx (dLst (dCons (dCall LW.m__law_drawn (dCons (dVar 0) (dCons (dOp fAdd (dCB fLenS (dCons (dVar 1) dNil)) (dC (.int 1))) dNil))) (dCons (dCB fLenS (dCons (dVar 1) dNil)) dNil))) (dOp fDiv (dCall LW.m__law_drawn (dCons (dVar 0) (dCons (dC (.int 5)) dNil))) (dC (.int 4)))) dNil)))
  (dSeq (dAsg (dC (.str "0123456789 -\nabcdefghijklmnopqrstuvwxyz!#$&'()*+,./:;<=>?@ABCDEFGHIJKLMNOPQRSTUVWXYZ[]^_{|}~")) (dName 4))
  (dSeq (dAsg (dOp fIxX (dVar 4) (dCall LW.m__law_drawn (dCons (dVar 0) (dCons (dOp fIx (dLst (dCons (dC (.int 13)) (dCons (dCB fLenS (dCons (dVar 4) dNil)) dNil))) (dCall LW.m__law_drawn (dCons (dVar 0) (dCons (dC (.int 2)) dNil)))) dNil)))) (dName 5))
  (dSeq (dIfS (dB (dOp fLt (dVar 2) (dC (.int 3)))) (dRet (dOp fCatS (dOp fCatS (dSl fSlX (dVar 1) (dPart none) (dPart (some (dVar 3)))) (dOp fIx (dLst (dCons (dVar 5) (dCons (dC (.str "")) (dCons (dVar 5) dNil)))) (dVar 2))) (dSl fSlX (dVar 1) (dPart (some (dOp fAdd (dVar 3) (dCB fInt1 (dCons (dOp fGt (dVar 2) (dC (.int 0))) dNil))))) (dPart none))))
  dNext)
  (dSeq (dAsg (dSM1 mSplit (dVar 1) (dC (.str "\n"))) (dName 6))
  (dSeq (dAsg (dCall LW.m__law_drawn (dCons (dVar 0) (dCons (dCB fLen (dCons (dVar 6) dNil)) dNil))) (dName 7))
  (dSeq (dIfS (dB (dOp fLt (dVar 2) (dC (.int 6)))) (dRet (dSM1 mJoin (dC (.str "\n")) (dOp fIx (dLst (dCons (dOp fAdd (dSl fSl (dVar 6) (dPart none) (dPart (some (dVar 7)))) (dSl fSl (dVar 6) (dPart (some (dOp fAdd (dVar 7) (dC (.int 1))))) (dPart none))) (dCons (dOp fAdd (dSl fSl (dVar 6) (dPart none) (dPart (some (dOp fAdd (dVar 7) (dC (.int 1)))))) (dSl fSl (dVar 6) (dPart (some (dVar 7))) (dPart none))) (dCons (dOp fAdd (dSl fSl (dVar 6) (dPart (some (dVar 7))) (dPart none)) (dSl fSl (dVar 6) (dPart none) (dPart (some (dVar 7))))) dNil)))) (dOp fSub (dVar 2) (dC (.int 3))))))
  dNext)
  (dSeq (dAsg (dSM1 mSplit (dOp fIx (dVar 6) (dVar 7)) (dC (.str " "))) (dName 8))
  (dSeq (dAsg (dCall LW.m__law_drawn (dCons (dVar 0) (dCons (dCB fLen (dCons (dVar 8) dNil)) dNil))) (dName 9))
  (dSeq (dAsg (dLst (dCons (dC (.str "")) (dCons (dC (.str "0")) (dCons (dC (.str "00")) (dCons (dC (.str "07")) (dCons (dC (.str "99999")) (dCons (dC (.str "100000")) (dCons (dC (.str "-1")) (dCons (dC (.str "-")) (dCons (dC (.str "write")) (dCons (dC (.str "settle")) (dCons (dC (.str "Send")) (dCons (dC (.str "tie")) (dCons (dC (.str "untie")) (dCons (dC (.str "day")) (dCons (dC (.str "days")) dNil)))))))))))))))) (dName 10))
  (dSeq (dAsg (dOp fAdd (dOp fAdd (dSl fSl (dVar 8) (dPart none) (dPart (some (dVar 9)))) (dOp fIx (dLst (dCons (dLst dNil) (dCons (dOp fMul (dLst (dCons (dOp fIx (dVar 8) (dVar 9)) dNil)) (dC (.int 2))) (dCons (dLst (dCons (dOp fIx (dVar 10) (dCall LW.m__law_drawn (dCons (dVar 0) (dCons (dC (.int 15)) dNil)))) dNil)) dNil)))) (dOp fSub (dVar 2) (dC (.int 6))))) (dSl fSl (dVar 8) (dPart (some (dOp fAdd (dVar 9) (dC (.int 1))))) (dPart none))) (dName 8))
  (dRet (dSM1 mJoin (dC (.str "\n")) (dOp fAdd (dOp fAdd (dSl fSl (dVar 6) (dPart none) (dPart (some (dVar 7)))) (dLst (dCons (dSM1 mJoin (dC (.str " ")) (dVar 8)) dNil))) (dSl fSl (dVar 6) (dPart (some (dOp fAdd (dVar 7) (dC (.int 1))))) (dPart none))))))))))))))))
def m__law_spoilt : DL := dDef 2 11 b__law_spoilt
theorem u__law_spoilt (a0 : EV) (a1 : EV) (h : EH) : m__law_spoilt [a0, a1] h = (b__law_spoilt [some a0, some a1, none, none, none, none, none, none, none, none, none] h).bind kDef := rfl
def b__law_row : DS :=
  (dSeq (dAsg (dDisp [((dC (.str "write")), (dC (.int 4))), ((dC (.str "back")), (dC (.int 3))), ((dC (.str "day")), (dC (.int 3))), ((dC (.str "days")), (dC (.int 2))), ((dC (.str "tie")), (dC (.int 3))), ((dC (.str "untie")), (dC (.int 3))), ((dC (.str "send")), (dC (.int 2))), ((dC (.str "carry")), (dC (.int 2))), ((dC (.str "lose")), (dC (.int 2)))]) (dName 1))
  (dSeq (dDrop (dBMD mUpdK (dVar 1) (dCons (dDisp [((dC (.str "twice")), (dC (.int 2))), ((dC (.str "settle")), (dC (.int 1)))]) dNil)))
  (dSeq (dAsg (dSM1 mSplit (dVar 0) (dC (.str " "))) (dName 2))
  (dSeq (dIfS (dB (dOp fNe (dBMD mGet1 (dVar 1) (dCons (dOp fIx (dVar 2) (dC (.int 0))) dNil)) (dCB fLen (dCons (dVar 2) dNil)))) (dRet (dC .non))
  dNext)
  (dSeq (dAsg (dTup (dCons (dOp fIx (dVar 2) (dC (.int 0))) dNil)) (dName 3))
  (dSeq (dFor (dItL (dSl fSl (dVar 2) (dPart (some (dC (.int 1)))) (dPart none))) (dName 4)
  (dSeq (dIfS (dOr (dNot (dB (dChain fLt fLt (dC (.int 0)) (dCB fLenS (dCons (dVar 4) dNil)) (dC (.int 6))))) (dB (dOp fNe (dLc (dItS (dVar 4)) (dName 5) (dB (dOp fNotInX (dVar 5) (dC (.str "0123456789")))) (dVar 5) [5]) (dLst dNil)))) (dRet (dC .non))
  dNext)
  (dSeq (dIfS (dAnd (dB (dOp fGt (dCB fLenS (dCons (dVar 4) dNil)) (dC (.int 1)))) (dB (dOp fEq (dOp fIxX (dVar 4) (dC (.int 0))) (dC (.str "0"))))) (dRet (dC .non))
  dNext)
  (dAsg (dOp fCatT (dVar 3) (dTup (dCons (dCB fIntS (dCons (dVar 4) dNil)) dNil))) (dName 3)))))
  (dRet (dVar 3))))))))
def m__law_row : DL := dDef 1 6 b__law_row
theorem u__law_row (a0 : EV) (h : EH) : m__law_row [a0] h = (b__law_row [some a0, none, none, none, none, none] h).bind kDef := rfl
def rs_word (c : Nat) (fs : List EV) (h : EH) : Option (EV × EH) := match c, fs with
  | 29, [x] => some (.tup [.str "BadText", x], h ++ WW.junk 29)
  | _, _ => none
def b__is_number : DS :=
  (dSeq (dIfS (dOr (dNot (dB (dSM0 mIsascii (dVar 0)))) (dOr (dNot (dB (dSM0 mIsdigit (dVar 0)))) (dB (dOp fGt (dCB fLenS (dCons (dVar 0) dNil)) (dC (.int 5)))))) (dRet (dC (.bl false)))
  dNext)
  (dRet (dOrV (dOp fEq (dVar 0) (dC (.str "0"))) (dNotV (dSM1 mStarts (dVar 0) (dC (.str "0")))))))
def m__is_number : DL := dDef 1 1 b__is_number
theorem u__is_number (a0 : EV) (h : EH) : m__is_number [a0] h = (b__is_number [some a0] h).bind kDef := rfl
def b__step : DS :=
  (dSeq (dAsg (dSM1 mSplit (dVar 1) (dC (.str " "))) (dGStarL 1 (dGCons (dName 2) (dGCons (dName 3) dGNil))))
  (dSeq (dIfS (dB (dOp fNe (dKGet tab_COUNTS (dVar 2)) (dCB fLen (dCons (dVar 3) dNil)))) (dRaiseN 29 "row " " of the text can't be read" (dVar 0))
  dNext)
  (dSeq (dFor (dItL (dVar 3)) (dName 4)
  (dIfS (dNot (dB (dCall m__is_number (dCons (dVar 4) dNil)))) (dRaiseN 29 "row " " of the text can't be read" (dVar 0))
  dNext))
  (dSeq (dAsg (dLc (dItL (dVar 3)) (dName 4) dYes (dCB fIntS (dCons (dVar 4) dNil)) [4]) (dName 5))
  (dRet (dTup (dCons (dVar 2) (dStarA (dVar 5) dNil))))))))
def m__step : DL := dDef 2 6 b__step
theorem u__step (a0 : EV) (a1 : EV) (h : EH) : m__step [a0, a1] h = (b__step [some a0, some a1, none, none, none, none] h).bind kDef := rfl
def b_read : DS :=
  (dSeq (dIfS (dB (dOp fEq (dVar 0) (dC (.str "")))) (dRet (dLst dNil))
  dNext)
  (dRet (dLc (dItE (dCons (dSM1 mSplit (dVar 0) (dC (.str "\n"))) dNil)) (dGTup 2 (dGCons (dName 1) (dGCons (dName 2) dGNil))) dYes (dCallX m__step (dCons (dVar 1) (dCons (dVar 2) dNil))) [1, 2])))
def m_read : DL := dDef 1 3 b_read
theorem u_read (a0 : EV) (h : EH) : m_read [a0] h = (b_read [some a0, none, none] h).bind kDef := rfl
def b_law : DS :=
  (dSeq (dAsg (dCall LW.m__law_start (dCons (dVar 0) dNil)) (dName 1))
  (dSeq (dAsg (dLst (dCons (dC (.str "")) (dCons (dC (.str "\n")) (dCons (dC (.str "settle ")) (dCons (dC (.str " settle")) (dCons (dC (.str "settle 0")) (dCons (dC (.str "write 0 1")) (dCons (dC (.str "write 0 1 2 3")) (dCons (dC (.str "send")) (dCons (dC (.str "send 0\n")) dNil)))))))))) (dName 2))
  (dSeq (dAsg (dOp fAdd (dVar 2) (dLst (dCons (dC (.str "carry a")) (dCons (dC (.str "lose -1")) dNil)))) (dName 2))
  (dSeq (dFor (dItR1 (dCons (dC (.int 6)) dNil)) (dName 3)
  (dSeq (dAsg (dCall m_written (dCons (dCall m__law_play (dCons (dVar 1) dNil)) dNil)) (dName 8))
  (dSeq (dIfS (dB (dOp fEq (dCall LW.m__law_drawn (dCons (dVar 1) (dCons (dC (.int 4)) dNil))) (dC (.int 0)))) (dAsg (dOp fIx (dVar 2) (dCall LW.m__law_drawn (dCons (dVar 1) (dCons (dC (.int 11)) dNil)))) (dName 8))
  dNext)
  (dSeq (dFor (dItR1 (dCons (dCall LW.m__law_drawn (dCons (dVar 1) (dCons (dC (.int 4)) dNil))) dNil)) (dName 4)
  (dAsg (dCall m__law_spoilt (dCons (dVar 1) (dCons (dVar 8) dNil))) (dName 8)))
  (dSeq (dAsg (dIf (dB (dOp fNe (dVar 8) (dC (.str "")))) (dLc (dItL (dSM1 mSplit (dVar 8) (dC (.str "\n")))) (dName 9) dYes (dCall m__law_row (dCons (dVar 9) dNil)) [9]) (dLst dNil)) (dName 5))
  (dSeq (dAsg (dIf (dB (dOp fInD (dC .non) (dVar 5))) (dTup (dCons (dC (.str "BadText")) (dCons (dBM mIndexD (dVar 5) (dCons (dC .non) dNil)) dNil))) (dVar 5)) (dName 6))
  (dFor (dItR1 (dCons (dC (.int 2)) dNil)) (dName 7)
  (dIfS (dNot (dB (dCall (LW.m__law_same 8) (dCons (dWord rs_word (dCallX m_read (dCons (dVar 8) dNil))) (dCons (dVar 6) dNil))))) (dRet (dC (.bl false)))
  dNext))))))))
  (dRet (dC (.bl true)))))))
def m_law : DL := dDef 1 10 b_law
theorem u_law (a0 : EV) (h : EH) : m_law [a0] h = (b_law [some a0, none, none, none, none, none, none, none, none, none] h).bind kDef := rfl
end K14
set_option Elab.async false
set_option linter.all false
set_option maxRecDepth 100000
set_option maxHeartbeats 4000000
namespace K14
open PySem L2 EE LW
theorem updK {h : EH} {n m : Nat} {kvs more out : List (EV × EV)} (hn : n ≠ m) (e1 : h[n]? = some (.dic false kvs)) (e2 : h[m]? = some (.dic false more)) (hl : kvs.length + more.length ≤ 100000) (ho : dfoldK kvs more = some out) : mUpdK (.ref n) [.ref m] h = .ok .non (h.set n (.dic false out)) := by
  have d1 : mdicAt h n = some (false, kvs) := by simp only [mdicAt, e1]
  have d2 : mdicAt h m = some (false, more) := by simp only [mdicAt, e2]
  simp [mUpdK, hn, d1, d2, hl, ho]
theorem over {X Y : List Nat} {h h1 h2 : EH} (a : Fr X h h1) (b : Fr Y h1 h2) (hy : ∀ n ∈ Y, n ∈ X ∨ h.length ≤ n) : Fr X h h2 :=
  ⟨Nat.le_trans a.1 b.1, fun n hn hx => (b.2 n (Nat.lt_of_lt_of_le hn a.1) fun q => (hy n q).elim hx fun z => by omega).trans (a.2 n hn hx)⟩
theorem stX {ns : List Int} {h h' : EH} {s : Nat} {X : List Nat} (hs : LW.St ns h s) (f : Fr X h h') (x1 : s ∉ X) (x2 : 0 ∉ X) : LW.St ns h' s := by
  obtain ⟨o, w1, w2, w3, w4⟩ := hs
  exact ⟨o, f.at w1 x1, w2, f.at w3 x2, w4⟩
abbrev Step : Type := Str × List Nat
def stE (st : Step) : EV := .tup (.str st.1 :: st.2.map fun (n : Nat) => EV.int n)
def Good (st : Step) : Prop := tab_COUNTS.lookup st.1 = some (st.2.length : Int) ∧ ∀ n ∈ st.2, n < 100000
def tabE : List (EV × EV) := tab_COUNTS.map fun p => (EV.str p.1, EV.int p.2)
def srt : List Str := ["back", "carry", "day", "days", "lose", "send", "settle", "tie", "twice", "untie", "write"]
theorem srt_eq : ssort (tab_COUNTS.map (·.1)) = srt := by
  refine (ssort_eq ?_ ?_).symm
  · decide +kernel
  · decide +kernel
theorem at_srt (r : Nat) (h : r < 11) : ∃ w c, srt[r]? = some w ∧ tab_COUNTS.lookup w = some ((c : Nat) : Int) ∧ c ≤ 3 ∧ dgetE false tabE (.str w) = some (some (.int ((c : Nat) : Int))) := by
  have : r = 0 ∨ r = 1 ∨ r = 2 ∨ r = 3 ∨ r = 4 ∨ r = 5 ∨ r = 6 ∨ r = 7 ∨ r = 8 ∨ r = 9 ∨ r = 10 := by omega
  rcases this with rfl | rfl | rfl | rfl | rfl | rfl | rfl | rfl | rfl | rfl | rfl
  · exact ⟨"back", 2, rfl, rfl, by decide, rfl⟩
  · exact ⟨"carry", 1, rfl, rfl, by decide, rfl⟩
  · exact ⟨"day", 2, rfl, rfl, by decide, rfl⟩
  · exact ⟨"days", 1, rfl, rfl, by decide, rfl⟩
  · exact ⟨"lose", 1, rfl, rfl, by decide, rfl⟩
  · exact ⟨"send", 1, rfl, rfl, by decide, rfl⟩
  · exact ⟨"settle", 0, rfl, rfl, by decide, rfl⟩
  · exact ⟨"tie", 2, rfl, rfl, by decide, rfl⟩
  · exact ⟨"twice", 1, rfl, rfl, by decide, rfl⟩
  · exact ⟨"untie", 2, rfl, rfl, by decide, rfl⟩
  · exact ⟨"write", 3, rfl, rfl, by decide, rfl⟩
end K14
set_option Elab.async false
set_option linter.all false
set_option maxRecDepth 100000
set_option maxHeartbeats 4000000
namespace K14
open PySem L2 EE LW
theorem at_end {h : EH} {x : EO} : (h ++ [x])[h.length]? = some x := by
  rw [List.getElem?_append_right (Nat.le_refl _), Nat.sub_self]; rfl
theorem f_sortK {h : EH} {n : Nat} (e : h[n]? = some (.dic false tabE)) : fSortK [.ref n] h = .ok (.ref h.length) (h ++ [.lst (srt.map EV.str)]) := by
  have d : dicAt h n = some (false, tabE) := by simp only [dicAt, e]
  have k : strsE (tabE.map (·.1)) = some (tab_COUNTS.map (·.1)) := by rfl
  simp only [fSortK, d, k]
  rw [if_pos (by decide), srt_eq]
def tabA : List (EV × EV) := [(.str "write", .int 3), (.str "back", .int 2), (.str "day", .int 2), (.str "days", .int 1), (.str "tie", .int 2), (.str "untie", .int 2), (.str "send", .int 1), (.str "carry", .int 1), (.str "lose", .int 1)]
def tabB : List (EV × EV) := [(.str "twice", .int 1), (.str "settle", .int 0)]
theorem play {ns : List Int} {h : EH} {s : Nat} {Q : EV → EH → Prop} (hs : St ns h s) (q : ∀ l (sts : List Step) h', (∀ st ∈ sts, Good st) → sts.length ≤ 20 → mutAt h' l = some (sts.map stE) → h.length ≤ l → St ns h' s → Fr [s] h h' → Q (.ref l) h') : Tri (m__law_play [.ref s] h) Q := by
  have hsl := hs.lt
  rw [u__law_play]
  have a1 : (h ++ [EO.dic false tabA])[h.length]? = some (.dic false tabA) := at_end
  have f1 : Fr [] h (h ++ [EO.dic false tabA]) := Fr.app _ _ _
  have l1 : (h ++ [EO.dic false tabA]).length = h.length + 1 := by simp
  generalize eg1 : h ++ [EO.dic false tabA] = h1 at *
  have E1 : dAsg (dDisp [((dC (.str "write")), (dC (.int 3))), ((dC (.str "back")), (dC (.int 2))), ((dC (.str "day")), (dC (.int 2))), ((dC (.str "days")), (dC (.int 1))), ((dC (.str "tie")), (dC (.int 2))), ((dC (.str "untie")), (dC (.int 2))), ((dC (.str "send")), (dC (.int 1))), ((dC (.str "carry")), (dC (.int 1))), ((dC (.str "lose")), (dC (.int 1)))]) (dName 1) [some (.ref s), none, none, none, none, none, none] h = .ok (.nx [some (.ref s), some (.ref h.length), none, none, none, none, none]) h1 := by
    have dk : dfoldK [] [(.str "write", .int 3), (.str "back", .int 2), (.str "day", .int 2), (.str "days", .int 1), (.str "tie", .int 2), (.str "untie", .int 2), (.str "send", .int 1), (.str "carry", .int 1), (.str "lose", .int 1)] = some tabA := rfl
    simp [-List.append_assoc, -List.length_append, dDisp, dPairs, dk, eg1]
  have a2 : (h1 ++ [EO.dic false tabB])[h1.length]? = some (.dic false tabB) := at_end
  have f2 : Fr [] h1 (h1 ++ [EO.dic false tabB]) := Fr.app _ _ _
  have l2 : (h1 ++ [EO.dic false tabB]).length = h1.length + 1 := by simp
  generalize eg2 : h1 ++ [EO.dic false tabB] = h2 at *
  have up := updK (n := h.length) (m := h1.length) (by omega) (f2.at a1 (by simp)) a2 (by decide) (out := tabE) rfl
  have kb : ∀ a es, kBMD mUpdK a es (.ref h.length) h1 = _ := fun a es => kBMD_ref a1
  have a3 : (h2.set h.length (.dic false tabE))[h.length]? = some (.dic false tabE) := List.getElem?_set_self (by omega)
  have f3 : Fr [h.length] h2 (h2.set h.length (.dic false tabE)) := (Fr.refl _ h2).set (.inl (by simp))
  have l3 : (h2.set h.length (.dic false tabE)).length = h2.length := List.length_set ..
  generalize eg3 : h2.set h.length (.dic false tabE) = h3 at *
  have E2 : dDrop (dBMD mUpdK (dVar 1) (dCons (dDisp [((dC (.str "twice")), (dC (.int 1))), ((dC (.str "settle")), (dC (.int 0)))]) dNil)) [some (.ref s), some (.ref h.length), none, none, none, none, none] h1 = .ok (.nx [some (.ref s), some (.ref h.length), none, none, none, none, none]) h3 := by
    have dk : dfoldK [] [(.str "twice", .int 1), (.str "settle", .int 0)] = some tabB := rfl
    simp [-List.append_assoc, -List.length_append, kb, dDisp, dPairs, dk, eg2, up, eg3]
  have m4 : mutAt (h3 ++ [EO.lst []]) h3.length = some [] := mutAt_new
  have f4 : Fr [] h3 (h3 ++ [EO.lst []]) := Fr.app _ _ _
  have l4 : (h3 ++ [EO.lst []]).length = h3.length + 1 := by simp
  have F4 : Fr [] h (h3 ++ [EO.lst []]) := by
    refine Fr.trans ?_ f4
    rw [← eg3]
    exact (f1.trans f2).set (.inr (Nat.le_refl _))
  have hs4 := hs.fr F4
  have a4 := f4.at a3 (by simp)
  generalize eg4 : h3 ++ [EO.lst []] = h4 at *
  unfold b__law_play
  rw [ap_seq, E1]
  simp only [bind_ok, kSeq_nx]
  rw [ap_seq, E2]
  simp only [bind_ok, kSeq_nx]
  simp [-List.append_assoc, -List.length_append, tri_bind, eg4]
  refine drawnF hs4 (by decide) (by decide) fun r1 h5 r1a r1b hs5 f5 l5 => ?_
  have m5 := f5.mut m4 (by simp; omega)
  have a5 := f5.at a4 (by simp; omega)
  simp only [ap_kItR1 h5 r1 (by omega) (by omega), tri_ok]
  refine tri_for (xs := rng 0 r1.toNat) (fun i es h' => ∃ sts : List Step, ∃ a b c d, es = [some (.ref s), some (.ref h.length), some (.ref h3.length), a, b, c, d] ∧ (∀ st ∈ sts, Good st) ∧ sts.length = i ∧ mutAt h' h3.length = some (sts.map stE) ∧ h'[h.length]? = some (.dic false tabE) ∧ St ns h' s ∧ Fr [s, h3.length] h4 h')
    ⟨[], none, none, none, none, rfl, fun _ hp => by simp at hp, rfl, m5, a5, hs5, f5.weak (by simp)⟩ (fun _ _ _ _ => rfl) ?_ ?_
  · rintro i x es hh K hx ⟨sts, va, vb, vc, vd, rfl, hg, hl, hm, hd, hst, hf⟩ hK _ _ _
    obtain ⟨hi, rfl⟩ := rng_at hx
    have lh := hf.1
    have m1 : lstAt (hh ++ [EO.lst (srt.map EV.str)]) hh.length = some (srt.map EV.str) := lstAt_new
    have g1 : Fr [] hh (hh ++ [EO.lst (srt.map EV.str)]) := Fr.app _ _ _
    have l1' : (hh ++ [EO.lst (srt.map EV.str)]).length = hh.length + 1 := by simp
    have st1 := hst.fr g1
    have sk := f_sortK hd
    generalize eh1 : hh ++ [EO.lst (srt.map EV.str)] = k1 at *
    simp [-List.append_assoc, -List.length_append, tri_bind, sk]
    refine drawnF st1 (by decide) (by decide) fun r2 k2 r2a r2b st2 g2 l2' => ?_
    have hsh := hst.lt
    obtain ⟨w, c, w1, w2, w3, w4⟩ := at_srt r2.toNat (by omega)
    have ix : fIx (.ref hh.length) (.int r2) k2 = .ok (.str w) k2 := f_ixL r2 (g2.lst m1 (by simp; omega)) r2.toNat (by omega) (by rw [List.getElem?_map, w1]; rfl)
    have hd2 := g2.at (g1.at hd (by simp)) (by simp; omega)
    have dg : fDGet (.ref h.length) (.str w) k2 = .ok (.int c) k2 := f_dget (.inl hd2) w4
    simp only [ix, tri_ok, dg, ap_kItR1 k2 (c : Int) (by omega) (by omega), List.set_cons_zero, List.set_cons_succ, List.getElem?_cons_zero, List.getElem?_cons_succ, gV_some, bind_ok, ap_kCons, ap_kCons2, ap_nil]
    have hm2 := g2.mut (g1.mut hm (by simp)) (by simp; omega)
    refine tri_lcJ (xs := rng 0 c) (fun j acc k' => ∃ ms : List Nat, acc = ms.map (fun (n : Nat) => EV.int n) ∧ ms.length = j ∧ j ≤ c ∧ (∀ n ∈ ms, n < 100000) ∧ St ns k' s ∧ Fr [s] k2 k') ⟨[], rfl, rfl, Nat.zero_le _, fun _ hp => by simp at hp, st2, Fr.refl _ _⟩ (fun _ _ _ _ => rfl) ?_ ?_ ?_
    · rintro j acc k' ⟨ms, rfl, rfl, hj, _⟩
      rw [List.length_map]; omega
    · rintro j y acc k' K2 hy ⟨ms, rfl, hj, hjc, hms, st', ff⟩ _ hyes
      obtain ⟨hj2, rfl⟩ := rng_at hy
      simp only [ap_yes, tri_ok]
      refine hyes _ fun Ke hKe => ?_
      have e5 : lstAt (k' ++ [EO.lst [EV.int 3, EV.int 10, EV.int 100000]]) k'.length = some [EV.int 3, EV.int 10, EV.int 100000] := lstAt_new
      have g5 : Fr [] k' (k' ++ [EO.lst [EV.int 3, EV.int 10, EV.int 100000]]) := Fr.app _ _ _
      have st5 := st'.fr g5
      have l5' : (k' ++ [EO.lst [EV.int 3, EV.int 10, EV.int 100000]]).length = k'.length + 1 := by simp
      generalize eh5 : k' ++ [EO.lst [EV.int 3, EV.int 10, EV.int 100000]] = k5 at *
      simp [-List.append_assoc, -List.length_append, tri_bind, wip, eh5]
      refine drawnF st5 (by decide) (by decide) fun r6 k6 r6a r6b st6 g6 l6 => ?_
      have := st'.lt
      have e6 := g6.lst e5 (by simp; omega)
      have : ∃ m : Int, fIx (.ref k'.length) (.int r6) k6 = .ok (.int m) k6 ∧ 0 < m ∧ m ≤ 100000 := by
        have : r6 = 0 ∨ r6 = 1 ∨ r6 = 2 := by omega
        rcases this with rfl | rfl | rfl
        · exact ⟨3, f_ixL _ e6 0 rfl rfl, by omega, by omega⟩
        · exact ⟨10, f_ixL _ e6 1 rfl rfl, by omega, by omega⟩
        · exact ⟨100000, f_ixL _ e6 2 rfl rfl, by omega, by omega⟩
      obtain ⟨m, em, hm0, hm1⟩ := this
      simp only [em, tri_ok, bind_ok]
      refine drawnF st6 hm0 (by omega) fun r7 k7 r7a r7b st7 g7 l7 => ?_
      refine hKe _ _ ⟨ms ++ [r7.toNat], ?_, by simp [hj], by omega, ?_, st7, ?_⟩
      · rw [List.map_append, List.map_singleton, Int.toNat_of_nonneg r7a]
      · intro n hn
        rcases List.mem_append.mp hn with z | z
        · exact hms n z
        · rw [List.mem_singleton.mp z]; omega
      · exact (ff.trans (g5.weak (by simp))).trans (g6.trans g7)
    · rintro acc k' ⟨ms, rfl, hmc, _, hms, st', ff⟩
      rw [rng_len] at hmc
      have hm3 := ff.mut hm2 (by simp; omega)
      have hd3 := ff.at hd2 (by simp; omega)
      have lk' := ff.1
      have n1 : mutAt (k' ++ [EO.lst (ms.map fun (n : Nat) => EV.int n)]) k'.length = some (ms.map fun (n : Nat) => EV.int n) := mutAt_new
      have x1 : Fr [] k' (k' ++ [EO.lst (ms.map fun (n : Nat) => EV.int n)]) := Fr.app _ _ _
      have y1 : (k' ++ [EO.lst (ms.map fun (n : Nat) => EV.int n)]).length = k'.length + 1 := by simp
      generalize eq1 : k' ++ [EO.lst (ms.map fun (n : Nat) => EV.int n)] = q1 at *
      have n2 : mutAt (q1 ++ [EO.lst [EV.str w]]) q1.length = some [EV.str w] := mutAt_new
      have x2 : Fr [] q1 (q1 ++ [EO.lst [EV.str w]]) := Fr.app _ _ _
      have y2 : (q1 ++ [EO.lst [EV.str w]]).length = q1.length + 1 := by simp
      generalize eq2 : q1 ++ [EO.lst [EV.str w]] = q2 at *
      have ct := f_cat n2 (x2.mut n1 (by simp)) (by simp; omega)
      have n3 : lstAt (q2 ++ [EO.lst ([EV.str w] ++ ms.map fun (n : Nat) => EV.int n)]) q2.length = some ([EV.str w] ++ ms.map fun (n : Nat) => EV.int n) := lstAt_new
      have x3 : Fr [] q2 (q2 ++ [EO.lst ([EV.str w] ++ ms.map fun (n : Nat) => EV.int n)]) := Fr.app _ _ _
      have y3 : (q2 ++ [EO.lst ([EV.str w] ++ ms.map fun (n : Nat) => EV.int n)]).length = q2.length + 1 := by simp
      generalize eq3 : q2 ++ [EO.lst ([EV.str w] ++ ms.map fun (n : Nat) => EV.int n)] = q3 at *
      have tp := f_tupL n3
      have X3 := (x1.trans x2).trans x3
      have hm4 := X3.mut hm3 (by simp)
      have kb2 : ∀ a es, kBM mApp a es (.ref h3.length) q1 = _ := fun a es => kBM_ref es mApp a (lst_mut ((x1.mut hm3 (by simp))))
      have ma := m_append (x := stE (w, ms)) hm4 (by rw [List.length_map]; omega)
      simp [-List.append_assoc, -List.length_append, tri_bind, eq2, kb2, ct, tp]
      rw [show (EV.tup (EV.str w :: ms.map fun (n : Nat) => EV.int n)) = stE (w, ms) from rfl, ma]
      simp only [tri_ok]
      refine hK _ _ ⟨sts ++ [(w, ms)], _, _, _, _, rfl, ?_, by simp [hl], ?_, ?_, ?_, ?_⟩
      · intro st hst'
        rcases List.mem_append.mp hst' with z | z
        · exact hg st z
        · rw [List.mem_singleton.mp z]
          exact ⟨by rw [w2, hmc], hms⟩
      · rw [List.map_append]
        exact mutAt_set (by have := mutAt_lt hm4; omega)
      · rw [List.getElem?_set_ne (by omega)]
        exact X3.at hd3 (by simp)
      · exact stX (st'.fr X3) (X := [h3.length]) ((Fr.refl _ _).set (.inl (by simp))) (by simp; omega) (by simp; omega)
      · exact ((((hf.trans (g1.weak (by simp))).trans (g2.weak (by simp))).trans (ff.weak (by simp))).trans (X3.weak (by simp))).set (.inl (by simp))
  · rintro es hh ⟨sts, va, vb, vc, vd, rfl, hg, hl, hm, hd, hst, hf⟩
    simp
    refine q _ sts _ hg (by rw [hl, rng_len]; omega) hm (by omega) hst ?_
    exact over (F4.weak (by simp)) hf (by simp; omega)
end K14
set_option Elab.async false
set_option linter.all false
set_option maxRecDepth 100000
set_option maxHeartbeats 4000000
namespace K14
open PySem L2 EE LW TL
def numS (n : Nat) : Str := Str.ofString (toString ((n : Nat) : Int))
theorem tl_numS (n : Nat) : tl (numS n) = numL n := tl_num n
def sp : Str := " "
def nl : Str := "\n"
theorem tl_sp : tl sp = [32] := by decide +kernel
theorem tl_nl : tl nl = [10] := by decide +kernel
def rowJ (st : Step) : Str := Txt.join sp (st.1 :: st.2.map numS)
def rowF (w : Str) (ns : List Nat) : Str := ns.foldl (fun r n => r ++ sp ++ numS n) w
theorem joinL_app (S a b : List Nat) (r : List (List Nat)) : joinL S ((a ++ b) :: r) = a ++ joinL S (b :: r) := by
  cases r with
  | nil => rfl
  | cons x r => simp [joinL]
theorem tl_rowJ (st : Step) : tl (rowJ st) = joinL [32] (tl st.1 :: st.2.map numL) := by
  unfold rowJ
  rw [join_eq, tl_join, tl_sp, List.map_cons, List.map_map]
  congr 2
  exact List.map_congr_left fun n _ => tl_numS n
theorem tl_rowF : ∀ (ns : List Nat) (w : Str), tl (rowF w ns) = joinL [32] (tl w :: ns.map numL)
  | [], w => rfl
  | n :: ns, w => by
    show tl (rowF (w ++ sp ++ numS n) ns) = _
    rw [tl_rowF ns, tl_append, tl_append, tl_numS, tl_sp, joinL_app]
    simp [joinL]
theorem row_eq (st : Step) : rowF st.1 st.2 = rowJ st := ext_tl (by rw [tl_rowF, tl_rowJ])
theorem joinL_len (S : List Nat) : ∀ ps : List (List Nat), (joinL S ps).length ≤ (ps.map (·.length)).sum + ps.length * S.length
  | [] => by simp [joinL]
  | [p] => by simp [joinL]
  | p :: q :: r => by
    have := joinL_len S (q :: r)
    simp only [joinL, List.length_append, List.map_cons, List.sum_cons, List.length_cons, Nat.add_mul, Nat.one_mul] at this ⊢
    omega
theorem joinL_mem {S : List Nat} {c : Nat} : ∀ {ps : List (List Nat)}, c ∈ joinL S ps → c ∈ S ∨ ∃ p ∈ ps, c ∈ p
  | [], h => by simp [joinL] at h
  | [p], h => .inr ⟨p, by simp, h⟩
  | p :: q :: r, h => by
    simp only [joinL, List.mem_append] at h
    rcases h with h | h | h
    · exact .inr ⟨p, by simp, h⟩
    · exact .inl h
    · rcases joinL_mem h with z | ⟨x, hx, hc⟩
      · exact .inl z
      · exact .inr ⟨x, List.mem_cons_of_mem _ hx, hc⟩
theorem lookup_mem {α β : Type} [BEq α] [LawfulBEq α] : ∀ {l : List (α × β)} {x : α} {y : β}, l.lookup x = some y → (x, y) ∈ l
  | [], _, _, h => by cases h
  | (a, b) :: l, x, y, h => by
    rw [List.lookup_cons] at h
    cases hx : x == a with
    | true =>
      rw [hx] at h
      simp only [Option.some.injEq] at h
      rw [eq_of_beq hx, h]
      exact List.mem_cons_self
    | false =>
      rw [hx] at h
      exact List.mem_cons_of_mem _ (lookup_mem h)
theorem word_ok : ∀ p ∈ tab_COUNTS, tl p.1 ≠ [] ∧ (tl p.1).length ≤ 6 ∧ 32 ∉ tl p.1 ∧ 10 ∉ tl p.1 ∧ 0 ≤ p.2 ∧ p.2 ≤ 3 := by decide +kernel
theorem Good.word {st : Step} (g : Good st) : tl st.1 ≠ [] ∧ (tl st.1).length ≤ 6 ∧ 32 ∉ tl st.1 ∧ 10 ∉ tl st.1 ∧ st.2.length ≤ 3 := by
  obtain ⟨a, b, c, d, e, f⟩ := word_ok _ (lookup_mem g.1)
  exact ⟨a, b, c, d, by simp only at f; omega⟩
theorem num_len {n : Nat} (h : n < 100000) : (numL n).length ≤ 5 := numL_len (by decide) h
theorem sum_le {c : Nat} : ∀ {l : List Nat}, (∀ x ∈ l, x ≤ c) → l.sum ≤ l.length * c
  | [], _ => by simp
  | x :: l, h => by
    have := sum_le (l := l) fun y hy => h y (List.mem_cons_of_mem _ hy)
    have := h x List.mem_cons_self
    simp only [List.sum_cons, List.length_cons, Nat.add_mul, Nat.one_mul]
    omega
theorem Good.len {st : Step} (g : Good st) : (tl (rowJ st)).length ≤ 30 := by
  obtain ⟨_, b, _, _, e⟩ := g.word
  rw [tl_rowJ]
  have h1 := joinL_len [32] (tl st.1 :: st.2.map numL)
  have h2 := sum_le (c := 5) (l := (st.2.map numL).map (·.length)) (by
    intro x hx
    obtain ⟨y, hy, rfl⟩ := List.mem_map.mp hx
    obtain ⟨n, hn, rfl⟩ := List.mem_map.mp hy
    exact num_len (g.2 n hn))
  simp only [List.map_cons, List.sum_cons, List.length_cons, List.length_map, List.length_nil] at h1 h2 ⊢
  omega
theorem Good.free {st : Step} (g : Good st) : 10 ∉ tl (rowJ st) := by
  obtain ⟨_, _, _, d, _⟩ := g.word
  rw [tl_rowJ]
  intro h
  rcases joinL_mem h with h | ⟨p, hp, h⟩
  · simp at h
  · rcases List.mem_cons.mp hp with e | hp
    · rw [e] at h; exact d h
    · obtain ⟨n, _, rfl⟩ := List.mem_map.mp hp
      exact numL_free (.inl (by decide)) h
theorem Good.split {st : Step} (g : Good st) : Txt.split (rowJ st) sp = st.1 :: st.2.map numS := by
  obtain ⟨_, _, c, _, _⟩ := g.word
  refine split_join (s := 32) (S := []) tl_sp (by decide +kernel) (by simp) fun p hp => ?_
  rcases List.mem_cons.mp hp with e | hp
  · rw [e]; exact c
  · obtain ⟨n, _, rfl⟩ := List.mem_map.mp hp
    rw [tl_numS]
    exact numL_free (.inl (by decide))
def textJ (sts : List Step) : Str := Txt.join nl (sts.map rowJ)
theorem tl_textJ (sts : List Step) : tl (textJ sts) = joinL [10] (sts.map fun st => tl (rowJ st)) := by
  unfold textJ
  rw [join_eq, tl_join, tl_nl, List.map_map]
  rfl
theorem text_len {sts : List Step} (hg : ∀ st ∈ sts, Good st) (hl : sts.length ≤ 20) : (tl (textJ sts)).length ≤ 620 := by
  rw [tl_textJ]
  have h1 := joinL_len [10] (sts.map fun st => tl (rowJ st))
  have h2 := sum_le (c := 30) (l := (sts.map fun st => tl (rowJ st)).map (·.length)) (by
    intro x hx
    obtain ⟨y, hy, rfl⟩ := List.mem_map.mp hx
    obtain ⟨st, hs, rfl⟩ := List.mem_map.mp hy
    exact (hg st hs).len)
  simp only [List.length_map, List.length_cons, List.length_nil] at h1 h2 ⊢
  omega
theorem text_split {sts : List Step} (hg : ∀ st ∈ sts, Good st) (hn : sts ≠ []) : Txt.split (textJ sts) nl = sts.map rowJ := by
  refine split_join (s := 10) (S := []) tl_nl (by decide +kernel) (by simpa using hn) fun p hp => ?_
  obtain ⟨st, hs, rfl⟩ := List.mem_map.mp hp
  exact (hg st hs).free
theorem text_ne {sts : List Step} (hg : ∀ st ∈ sts, Good st) (hn : sts ≠ []) : textJ sts ≠ ("" : Str) := by
  intro e
  have h := congrArg tl e
  rw [tl_textJ, show tl ("" : Str) = [] by decide +kernel] at h
  cases sts with
  | nil => exact hn rfl
  | cons st r =>
    have hw := (hg st List.mem_cons_self).word.1
    have h1 : tl (rowJ st) ≠ [] := by
      rw [tl_rowJ]
      intro z
      cases q : st.2.map numL with
      | nil => rw [q] at z; exact hw z
      | cons a b => rw [q] at z; simp [joinL] at z
    cases r with
    | nil => exact h1 h
    | cons a b => simp [joinL] at h
theorem len_of_tl (x : Str) : x.length = (tl x).length := len_tl x
theorem num_ascii (n : Nat) : Txt.isascii (numS n) = true := by
  unfold Txt.isascii
  rw [← Array.all_toList]
  rw [List.all_eq_true]
  intro c hc
  have := numL_digits n c (by rw [← tl_numS]; exact hc)
  simp; omega
theorem num_digit (n : Nat) : Txt.isdigit (numS n) = true := by
  have h0 : 0 < (numS n).length := by
    rw [len_tl, tl_numS]
    exact List.length_pos_iff.mpr (numL_ne n)
  unfold Txt.isdigit
  simp only [Bool.and_eq_true, decide_eq_true_eq]
  refine ⟨h0, ?_⟩
  rw [← Array.all_toList, List.all_eq_true]
  intro c hc
  have h := numL_digits n c (by rw [← tl_numS]; exact hc)
  have : c = 48 ∨ c = 49 ∨ c = 50 ∨ c = 51 ∨ c = 52 ∨ c = 53 ∨ c = 54 ∨ c = 55 ∨ c = 56 ∨ c = 57 := by omega
  rcases this with rfl | rfl | rfl | rfl | rfl | rfl | rfl | rfl | rfl | rfl <;> decide +kernel
theorem num_head : ∀ n : Nat, 0 < n → (numL n).head? ≠ some 48 := by
  intro n
  induction n using Nat.strongRecOn with
  | _ n ih =>
    intro h0
    by_cases h : n < 10
    · rw [numL_lt h]
      simp; omega
    · rw [numL_step (by omega)]
      have := ih (n / 10) (by omega) (by omega)
      cases q : numL (n / 10) with
      | nil => exact absurd q (numL_ne _)
      | cons a b => rw [q] at this; simpa using this
theorem starts_pre {x y : Str} (hy : tl y ≠ []) : Txt.startswith x y = pre (tl y) (tl x) := by
  have h := at_iff (x := x) hy 0
  rw [List.drop_zero] at h
  rw [Bool.eq_iff_iff, ← h]
  unfold Txt.startswith
  rw [Bool.and_eq_true, decide_eq_true_eq]
  exact Iff.rfl
theorem num_zero (n : Nat) : numS n = ("0" : Str) ∨ Txt.startswith (numS n) "0" = false := by
  by_cases h : n = 0
  · left; subst h; decide +kernel
  · right
    have hh := num_head n (by omega)
    have e0 : tl ("0" : Str) = [48] := by decide +kernel
    rw [starts_pre (by rw [e0]; simp), e0, tl_numS]
    cases q : numL n with
    | nil => exact absurd q (numL_ne n)
    | cons a b =>
      rw [q] at hh
      refine pre_of_head _ _ fun e => hh ?_
      rw [e]; rfl
theorem num_int {n : Nat} (h : n < 100000) : PySem.intText? (numS n) = some (n : Int) := int_num (Nat.le_trans (num_len h) (by decide))
end K14
set_option Elab.async false
set_option linter.all false
set_option maxRecDepth 100000
set_option maxHeartbeats 4000000
namespace K14
open PySem L2 EE LW TL
theorem num_slen {n : Nat} (h : n < 100000) : (numS n).length ≤ 5 := by
  rw [len_tl, tl_numS]; exact num_len h
theorem is_number (h : EH) {n : Nat} (hn : n < 100000) : m__is_number [.str (numS n)] h = .ok (.bl true) h := by
  have hl := num_slen hn
  rw [u__is_number]
  have e5 : decide ((5 : Int) < ((numS n).length : Int)) = false := decide_eq_false (by omega)
  have z : numS n = ("0" : Str) ∨ Txt.startswith (numS n) "0" = false := num_zero n
  simp [b__is_number, num_ascii, num_digit, f_lenS _ _ (show (numS n).length ≤ 100000 by omega), e5]
  rcases z with z | z
  · simp [z]
  · by_cases q : numS n = ("0" : Str)
    · simp [q]
    · simp [q, z]
theorem written_ok {h : EH} {l : Nat} {sts : List Step} {K : EV → EH → Prop} (hg : ∀ st ∈ sts, Good st) (hl : sts.length ≤ 20) (hm : lstAt h l = some (sts.map stE)) (q : ∀ h', Fr [] h h' → K (.str (textJ sts)) h') : Tri (m_written [.ref l] h) K := by
  rw [u_written]
  simp [b_written, tri_bind, kItL_ref hm, show (Str.ofString "\n") = nl from rfl, show (Str.ofString " ") = sp from rfl]
  refine tri_lcJ (xs := sts.map stE) (fun j acc h' => Fr [] h h' ∧ acc = (sts.take j).map (fun st => EV.str (rowJ st))) ⟨Fr.refl _ _, rfl⟩ (fun _ _ _ ⟨f, _⟩ => f.lst hm (by simp)) (fun j acc h' ⟨_, e⟩ => by rw [e, List.length_map, List.length_take]; omega) ?_ ?_
  · rintro j x acc h' K' hx ⟨f, rfl⟩ _ hyes
    rw [List.getElem?_map] at hx
    obtain ⟨st, hst, rfl⟩ := Option.map_eq_some_iff.mp hx
    simp
    refine hyes _ fun Ke hKe => ?_
    have g := hg st (List.mem_of_getElem? hst)
    have w5 := g.word.2.2.2.2
    simp [wip, tri_bind, stE]
    refine tri_lcJ (xs := EV.str st.1 :: st.2.map fun (n : Nat) => EV.int n) (fun i ac h2 => Fr [] h' h2 ∧ ac = ((st.1 :: st.2.map numS).take i).map EV.str) ⟨Fr.refl _ _, rfl⟩ (fun _ _ _ _ => rfl) (fun i ac h2 ⟨_, e⟩ => by rw [e, List.length_map, List.length_take, List.length_cons, List.length_map]; omega) ?_ ?_
    · rintro i y ac h2 K2 hy ⟨f2, rfl⟩ _ hyes2
      simp
      refine hyes2 _ fun Kf hKf => ?_
      cases i with
      | zero =>
        simp only [List.getElem?_cons_zero, Option.some.injEq] at hy
        subst hy
        simp [wip]
        exact hKf _ _ ⟨f2, by simp⟩
      | succ i =>
        simp only [List.getElem?_cons_succ, List.getElem?_map] at hy
        obtain ⟨n, hn, rfl⟩ := Option.map_eq_some_iff.mp hy
        have hn' := g.2 n (List.mem_of_getElem? hn)
        simp [wip, f_strI h2 (n : Int) (by omega)]
        refine hKf _ _ ⟨f2, ?_⟩
        simp only [List.take_succ_cons, List.map_cons, List.cons_append]
        rw [List.take_succ, List.getElem?_map, hn]
        simp [numS]
    · rintro ac h2 ⟨f2, rfl⟩
      rw [List.take_of_length_le (by simp)]
      have m1 : lstAt (h2 ++ [EO.lst ((st.1 :: st.2.map numS).map EV.str)]) h2.length = some ((st.1 :: st.2.map numS).map EV.str) := lstAt_new
      have f3 : Fr [] h2 (h2 ++ [EO.lst ((st.1 :: st.2.map numS).map EV.str)]) := Fr.app _ _ _
      generalize eg1 : h2 ++ [EO.lst ((st.1 :: st.2.map numS).map EV.str)] = h3 at *
      rw [m_joinL m1]
      · refine hKe _ _ ⟨(f.trans f2).trans f3, ?_⟩
        rw [List.take_succ, hst]
        simp [rowJ]
      · have hw := g.word.2.1
        have h2 := sum_le (c := 5) (l := (st.2.map numS).map (·.length)) (by
          intro x hx
          obtain ⟨y, hy, rfl⟩ := List.mem_map.mp hx
          obtain ⟨n, hn, rfl⟩ := List.mem_map.mp hy
          exact num_slen (g.2 n hn))
        have h3 : sp.length = 1 := by decide +kernel
        rw [h3]
        rw [← len_tl] at hw
        simp only [List.map_cons, List.sum_cons, List.length_cons, List.length_map] at h2 ⊢
        omega
  · rintro acc h' ⟨f, rfl⟩
    rw [List.length_map, List.take_length]
    have m1 : lstAt (h' ++ [EO.lst ((sts.map rowJ).map EV.str)]) h'.length = some ((sts.map rowJ).map EV.str) := lstAt_new
    have f3 : Fr [] h' (h' ++ [EO.lst ((sts.map rowJ).map EV.str)]) := Fr.app _ _ _
    rw [show (sts.map fun st => EV.str (rowJ st)) = (sts.map rowJ).map EV.str by rw [List.map_map]; rfl]
    generalize eg1 : h' ++ [EO.lst ((sts.map rowJ).map EV.str)] = h3 at *
    rw [m_joinL m1]
    · exact q _ (f.trans f3)
    · have h2 := sum_le (c := 30) (l := (sts.map rowJ).map (·.length)) (by
        intro x hx
        obtain ⟨y, hy, rfl⟩ := List.mem_map.mp hx
        obtain ⟨st, hst, rfl⟩ := List.mem_map.mp hy
        rw [len_tl]
        exact (hg st hst).len)
      have h3 : nl.length = 1 := by decide +kernel
      rw [h3]
      simp only [List.length_map] at h2 ⊢
      omega
end K14
set_option Elab.async false
set_option linter.all false
set_option maxRecDepth 100000
set_option maxHeartbeats 4000000
namespace K14
open PySem L2 EE LW TL
def stD (st : Step) : PyData := .tuple (.str st.1 :: st.2.map fun (n : Nat) => PyData.int n)
theorem dts_nums {h : EH} : ∀ ns : List Nat, Dts h (ns.map fun (n : Nat) => PyData.int n) (ns.map fun (n : Nat) => EV.int n)
  | [] => by simp only [List.map_nil, Dts]
  | n :: ns => by
    simp only [List.map_cons, Dts]
    exact ⟨_, _, rfl, by simp only [Dt], dts_nums ns⟩
theorem dts_steps {h : EH} : ∀ sts : List Step, Dts h (sts.map stD) (sts.map stE)
  | [] => by simp only [List.map_nil, Dts]
  | st :: sts => by
    simp only [List.map_cons, Dts]
    refine ⟨_, _, rfl, ?_, dts_steps sts⟩
    simp only [stD, stE, Dt]
    refine ⟨_, rfl, ?_⟩
    simp only [Dts]
    exact ⟨_, _, rfl, by simp only [Dt], dts_nums st.2⟩
theorem sms_nums : ∀ ns : List Nat, sms (ns.map fun (n : Nat) => PyData.int n) = true
  | [] => by simp only [List.map_nil, sms]
  | n :: ns => by simp only [List.map_cons, sms, sm, sms_nums ns, Bool.and_self]
theorem sms_steps : ∀ {sts : List Step}, (∀ st ∈ sts, Good st) → sms (sts.map stD) = true
  | [], _ => by simp only [List.map_nil, sms]
  | st :: sts, g => by
    have w := (g st List.mem_cons_self).word.2.2.2.2
    simp only [List.map_cons, sms, stD, sm, sms_nums, sms_steps (fun x hx => g x (List.mem_cons_of_mem _ hx)), List.length_cons, List.length_map, Bool.and_self, Bool.and_true, decide_eq_true_eq]
    omega
theorem depth_nums : ∀ ns : List Nat, PyData.depthAll (ns.map fun (n : Nat) => PyData.int n) = 0
  | [] => by simp only [List.map_nil, PyData.depthAll]
  | n :: ns => by simp only [List.map_cons, PyData.depthAll, PyData.depth, depth_nums ns]; rfl
theorem depth_steps : ∀ sts : List Step, PyData.depthAll (sts.map stD) ≤ 1
  | [] => by simp only [List.map_nil, PyData.depthAll]; omega
  | st :: sts => by
    have := depth_steps sts
    simp only [List.map_cons, PyData.depthAll, stD, PyData.depth, depth_nums]
    omega
theorem lay_nums : ∀ ns : List Nat, PyData.canLayAll0 (ns.map fun (n : Nat) => PyData.int n) = true
  | [] => by simp only [List.map_nil, PyData.canLayAll0]
  | n :: ns => by simp only [List.map_cons, PyData.canLayAll0, PyData.canLay0, lay_nums ns, Bool.and_self]
theorem word_str : ∀ p ∈ tab_COUNTS, PyData.strOk p.1 = true := by decide +kernel
theorem lay_steps : ∀ {sts : List Step}, (∀ st ∈ sts, Good st) → PyData.canLayAll0 (sts.map stD) = true
  | [], _ => by simp only [List.map_nil, PyData.canLayAll0]
  | st :: sts, g => by
    have hw := word_str _ (lookup_mem (g st List.mem_cons_self).1)
    simp only at hw
    simp only [List.map_cons, PyData.canLayAll0, stD, PyData.canLay0, lay_nums, hw, lay_steps (fun x hx => g x (List.mem_cons_of_mem _ hx)), Bool.and_self]
theorem dat0s_nums (f : Nat → Option (List PyData)) : ∀ ns : List Nat, dat0s f (ns.map fun (n : Nat) => EV.int n) = some (ns.map fun (n : Nat) => PyData.int n)
  | [] => by simp [dat0s]
  | n :: ns => by simp [dat0s, dat0, dat0s_nums f ns]
theorem dat0s_steps (f : Nat → Option (List PyData)) : ∀ sts : List Step, dat0s f (sts.map stE) = some (sts.map stD)
  | [] => by simp [dat0s]
  | st :: sts => by simp [dat0s, dat0, dat0s_steps f sts, stE, stD, dat0s_nums]
theorem dat_steps {h : EH} {l : Nat} {sts : List Step} (e : lstAt h l = some (sts.map stE)) : dat h (.ref l) = some (.list (sts.map stD)) := by
  have : datF h 4 l = some (sts.map stD) := by
    simp only [datF, e]
    exact dat0s_steps _ sts
  simp [dat, dat0, this]
end K14
set_option Elab.async false
set_option linter.all false
set_option maxRecDepth 100000
set_option maxHeartbeats 4000000
namespace K14
open PySem L2 EE LW TL
def Asc (l : List Nat) : Prop := ∀ c ∈ l, c < 128
def Tz (L : Nat) (t : Str) : Prop := Asc (tl t) ∧ (tl t).length ≤ L
def Wl (ps : List (List Nat)) : Nat := (ps.map (·.length)).sum + ps.length
theorem asc_app {a b : List Nat} (h : Asc a) (g : Asc b) : Asc (a ++ b) := fun c hc => (List.mem_append.mp hc).elim (h c) (g c)
theorem Tz.up {L M : Nat} {t : Str} (h : Tz L t) (hl : L ≤ M) : Tz M t := ⟨h.1, Nat.le_trans h.2 hl⟩
theorem Tz.len {L : Nat} {t : Str} (h : Tz L t) : t.length ≤ L := by rw [len_tl]; exact h.2
theorem wl_app (a b : List (List Nat)) : Wl (a ++ b) = Wl a + Wl b := by
  unfold Wl
  rw [List.map_append, List.sum_append, List.length_append]
  omega
theorem wl_cons (p : List Nat) (b : List (List Nat)) : Wl (p :: b) = p.length + 1 + Wl b := by
  unfold Wl
  rw [List.map_cons, List.sum_cons, List.length_cons]
  omega
theorem wl_take (a : List (List Nat)) (k : Nat) : Wl (a.take k) + Wl (a.drop k) = Wl a := by
  rw [← wl_app, List.take_append_drop]
theorem wl_drop_le (a : List (List Nat)) (k : Nat) : Wl (a.drop (k + 1)) ≤ Wl (a.drop k) := by
  have h := wl_take (a.drop k) 1
  rw [List.drop_drop] at h
  omega
theorem wl_len (a : List (List Nat)) : a.length ≤ Wl a := by unfold Wl; omega
theorem wl_mem {a : List (List Nat)} {p : List Nat} (h : p ∈ a) : p.length + 1 ≤ Wl a := by
  induction a with
  | nil => cases h
  | cons q a ih =>
    rw [wl_cons]
    rcases List.mem_cons.mp h with rfl | h
    · omega
    · have := ih h
      omega
theorem pre1 (s c : Nat) (r : List Nat) : pre [s] (c :: r) = decide (c = s) := by
  simp [pre]
  rw [Bool.eq_iff_iff]
  simp
theorem spl1 (s : Nat) : ∀ (l acc : List Nat), spl [s] 0 acc l ≠ [] ∧ Wl (spl [s] 0 acc l) = acc.length + l.length + 1 ∧ ∀ p ∈ spl [s] 0 acc l, ∀ c ∈ p, c ∈ acc ∨ c ∈ l
  | [], acc => by
    rw [spl_nil]
    refine ⟨by simp, by simp [Wl], fun p hp c hc => ?_⟩
    rw [List.mem_singleton.mp hp] at hc
    exact .inl hc
  | d :: r, acc => by
    by_cases e : d = s
    · rw [spl_hit (by rw [pre1]; exact decide_eq_true e)]
      obtain ⟨_, h2, h3⟩ := spl1 s r []
      show acc :: spl [s] 0 [] r ≠ [] ∧ Wl (acc :: spl [s] 0 [] r) = _ ∧ ∀ p ∈ acc :: spl [s] 0 [] r, _
      refine ⟨by simp, by rw [wl_cons, h2]; simp; omega, fun p hp c hc => ?_⟩
      rcases List.mem_cons.mp hp with rfl | hp
      · exact .inl hc
      · rcases h3 p hp c hc with z | z
        · cases z
        · exact .inr (List.mem_cons_of_mem _ z)
    · rw [spl_miss (by rw [pre1]; exact decide_eq_false e)]
      obtain ⟨h1, h2, h3⟩ := spl1 s r (acc ++ [d])
      refine ⟨h1, by rw [h2]; simp; omega, fun p hp c hc => ?_⟩
      rcases h3 p hp c hc with z | z
      · rcases List.mem_append.mp z with z | z
        · exact .inl z
        · rw [List.mem_singleton.mp z]
          exact .inr List.mem_cons_self
      · exact .inr (List.mem_cons_of_mem _ z)
def Sep (y : Str) : Prop := y = sp ∨ y = nl
theorem Sep.tl1 {y : Str} (h : Sep y) : ∃ s, tl y = [s] ∧ s < 128 := by
  rcases h with rfl | rfl
  · exact ⟨32, tl_sp, by decide⟩
  · exact ⟨10, tl_nl, by decide⟩
theorem Sep.len {y : Str} (h : Sep y) : (y.length == 0) = false ∧ y.length = 1 := by
  rcases h with rfl | rfl <;> exact ⟨by decide +kernel, by decide +kernel⟩
theorem Sep.kind {y : Str} (h : Sep y) (x : Str) : ¬ Builtin.Str.strKind x < Builtin.Str.strKind y := by
  rcases h with rfl | rfl <;> exact kind_ok (by decide +kernel)
theorem split_tl {y : Str} (h : Sep y) (t : Str) : ∃ s, s < 128 ∧ tl y = [s] ∧ (Txt.split t y).map tl = spl [s] 0 [] (tl t) := by
  obtain ⟨s, e, hs⟩ := h.tl1
  exact ⟨s, hs, e, by rw [split_spl t y (by rw [e]; simp) (h.kind t), e]⟩
theorem split_tx {y t : Str} {L : Nat} (h : Sep y) (T : Tz L t) : (∀ p ∈ Txt.split t y, Tz L p) ∧ Wl ((Txt.split t y).map tl) ≤ L + 1 ∧ Txt.split t y ≠ [] ∧ (Txt.split t y).length ≤ L + 1 := by
  obtain ⟨s, _, _, e⟩ := split_tl h t
  obtain ⟨h1, h2, h3⟩ := spl1 s (tl t) []
  rw [← e] at h1 h2 h3
  have tl2 := T.2
  simp only [List.length_nil, Nat.zero_add] at h2
  have wl := wl_len ((Txt.split t y).map tl)
  rw [List.length_map] at wl
  refine ⟨fun p hp => ⟨fun c hc => ?_, ?_⟩, by omega, fun z => h1 (by rw [z]; rfl), by omega⟩
  · rcases h3 (tl p) (List.mem_map_of_mem hp) c hc with z | z
    · cases z
    · exact T.1 c z
  · have := wl_mem (List.mem_map_of_mem (f := tl) hp)
    omega
theorem join_tx {y : Str} {ps : List Str} {M : Nat} (h : Sep y) (hp : ∀ p ∈ ps, Asc (tl p)) (hw : Wl (ps.map tl) ≤ M) : Tz M (Txt.join y ps) := by
  obtain ⟨s, e, hs⟩ := h.tl1
  have ej : tl (Txt.join y ps) = joinL (tl y) (ps.map tl) := by rw [join_eq, tl_join]
  refine ⟨fun c hc => ?_, ?_⟩
  · rw [ej] at hc
    rcases joinL_mem hc with z | ⟨p, hp', z⟩
    · rw [e, List.mem_singleton] at z
      omega
    · obtain ⟨q, hq, rfl⟩ := List.mem_map.mp hp'
      exact hp q hq c z
  · rw [ej]
    have := joinL_len (tl y) (ps.map tl)
    rw [e, List.length_singleton, Nat.mul_one] at this
    rw [e]
    unfold Wl at hw
    omega
theorem lens_tl (ps : List Str) : (ps.map (·.length)).sum = ((ps.map tl).map (·.length)).sum := by
  rw [List.map_map]
  congr 1
theorem m_joinT {h : EH} {y : Str} {n : Nat} {ps : List Str} (hy : Sep y) (e : lstAt h n = some (ps.map EV.str)) (hw : Wl (ps.map tl) ≤ 1000000) : mJoin (.str y) [.ref n] h = .ok (.str (Txt.join y ps)) h := by
  refine m_joinL e ?_
  rw [hy.len.2, lens_tl]
  unfold Wl at hw
  rw [List.length_map] at hw
  omega
theorem m_splitT {h : EH} {y t : Str} {L : Nat} (hy : Sep y) (T : Tz L t) (hl : L ≤ 99998) : mSplit (.str t) [.str y] h = .ok (.ref h.length) (h ++ [.lst ((Txt.split t y).map EV.str)]) :=
  m_splitS h t y hy.len.1 (by have := T.len; omega)
theorem tx_cut {t : Str} {L : Nat} (T : Tz L t) (lo hi : Option Int) : Tz L (cutS t lo hi) := by
  refine ⟨fun c hc => T.1 c ?_, ?_⟩
  · exact List.mem_of_mem_drop (List.mem_of_mem_take hc)
  · show (((tl t).drop _).take _).length ≤ L
    rw [List.length_take, List.length_drop]
    have := T.2
    omega
theorem tx_cat {a b : Str} {L M : Nat} (h : Tz L a) (g : Tz M b) : Tz (L + M) (a ++ b) := by
  refine ⟨by rw [tl_append]; exact asc_app h.1 g.1, by rw [tl_append, List.length_append]; have := h.2; have := g.2; omega⟩
end K14
set_option Elab.async false
set_option linter.all false
set_option maxRecDepth 100000
set_option maxHeartbeats 4000000
namespace K14
open PySem L2 EE LW TL
def dig (c : Nat) : Bool := decide (48 ≤ c) && decide (c ≤ 57)
def okL (L : List Nat) : Bool := decide (0 < L.length) && decide (L.length < 6) && L.all dig && !(decide (1 < L.length) && decide (L.head? = some 48))
def valOf (L : List Nat) : Nat := L.foldl (fun a c => 10 * a + (c - 48)) 0
theorem val_snoc (M : List Nat) (c : Nat) : valOf (M ++ [c]) = 10 * valOf M + (c - 48) := by
  unfold valOf
  rw [List.foldl_append]
  rfl
theorem num_back : ∀ (n : Nat) (L : List Nat), L.length = n → L ≠ [] → (∀ c ∈ L, 48 ≤ c ∧ c ≤ 57) → (1 < L.length → L.head? ≠ some 48) → numL (valOf L) = L ∧ valOf L < 10 ^ L.length ∧ (L.head? ≠ some 48 → 0 < valOf L)
  | 0, L, hl, hn, _, _ => absurd (List.length_eq_zero_iff.mp hl) hn
  | n + 1, L, hl, hn, hd, hh => by
    rcases List.eq_nil_or_concat L with z | ⟨M, c, rfl⟩
    · exact absurd z hn
    rw [List.concat_eq_append] at *
    have hc := hd c (by simp)
    by_cases hM : M = []
    · subst hM
      rw [val_snoc]
      show numL (10 * 0 + (c - 48)) = [c] ∧ (10 * 0 + (c - 48)) < 10 ^ 1 ∧ (([c] : List Nat).head? ≠ some 48 → 0 < (10 * 0 + (c - 48)))
      refine ⟨by rw [numL_lt (by omega)]; congr 1; omega, by omega, fun z => ?_⟩
      have : c ≠ 48 := fun q => z (by rw [q]; rfl)
      omega
    · have hM0 : M.length ≠ 0 := fun z => hM (List.length_eq_zero_iff.mp z)
      have eh : (M ++ [c]).head? = M.head? := by
        cases M with
        | nil => exact absurd rfl hM
        | cons a b => rfl
      have h48 : M.head? ≠ some 48 := by
        rw [← eh]
        exact hh (by simp; omega)
      obtain ⟨i1, i2, i3⟩ := num_back n M (by simp at hl; omega) hM (fun d hd' => hd d (by simp [hd'])) (fun _ => h48)
      have v0 := i3 h48
      rw [val_snoc, eh]
      refine ⟨?_, ?_, fun _ => by omega⟩
      · rw [numL_step (by omega), show (10 * valOf M + (c - 48)) / 10 = valOf M by omega, i1, show 48 + (10 * valOf M + (c - 48)) % 10 = c by omega]
      · rw [List.length_append, List.length_singleton, Nat.pow_succ]
        omega
theorem okL_num {L : List Nat} (h : okL L = true) : numL (valOf L) = L ∧ valOf L < 100000 := by
  unfold okL at h
  simp only [Bool.and_eq_true, decide_eq_true_eq, Bool.not_eq_true', List.all_eq_true, dig] at h
  obtain ⟨⟨⟨h0, h6⟩, ha⟩, hh⟩ := h
  have key := num_back L.length L rfl (fun z => by rw [z] at h0; simp at h0) ha (fun h1 z => by
    rw [z] at hh
    simp [h1] at hh)
  refine ⟨key.1, Nat.lt_of_lt_of_le key.2.1 ?_⟩
  exact Nat.le_trans (Nat.pow_le_pow_right (by decide) (show L.length ≤ 5 by omega)) (by decide)
theorem num_okL {n : Nat} (h : n < 100000) : okL (numL n) = true := by
  have h5 := num_len h
  have h0 := List.length_pos_iff.mpr (numL_ne n)
  unfold okL
  simp only [Bool.and_eq_true, decide_eq_true_eq, Bool.not_eq_true', List.all_eq_true, dig]
  refine ⟨⟨⟨h0, by omega⟩, fun c hc => ?_⟩, ?_⟩
  · have := numL_digits n c hc
    omega
  · by_cases z : n = 0
    · subst z
      rw [numL_lt (by decide)]
      rfl
    · rw [decide_eq_false (num_head n (by omega))]
      simp
theorem okS {p : Str} (h : okL (tl p) = true) : p = numS (valOf (tl p)) ∧ valOf (tl p) < 100000 := by
  have k := okL_num h
  exact ⟨ext_tl (by rw [tl_numS, k.1]), k.2⟩
theorem digit_ascii : ∀ c < 128, Unicode.isDigit c = dig c := by decide +kernel
theorem all_cps (p : Str) (f : Nat → Bool) : p.cps.all f = (tl p).all f := by rw [← Array.all_toList]
theorem is_number_g (h : EH) (p : Str) (hl : p.length ≤ 100000) : m__is_number [.str p] h = .ok (.bl (okL (tl p))) h := by
  have e1 : Txt.isascii p = (tl p).all (· < 128) := all_cps p _
  have e2 : Txt.isdigit p = (decide (0 < (tl p).length) && (tl p).all Unicode.isDigit) := by
    unfold Txt.isdigit
    rw [all_cps, len_tl]
  have tl0 : tl ("0" : Str) = [48] := by decide +kernel
  have e3 : Txt.startswith p "0" = decide ((tl p).head? = some 48) := by
    rw [starts_pre (by rw [tl0]; simp), tl0]
    cases q : tl p with
    | nil => rfl
    | cons c r => rw [pre1]; simp
  have e4 : decide (p = ("0" : Str)) = decide (tl p = [48]) := by
    rw [Bool.eq_iff_iff, decide_eq_true_eq, decide_eq_true_eq]
    exact ⟨fun z => by rw [z, tl0], fun z => ext_tl (by rw [z, tl0])⟩
  have lp := f_lenS (h := h) p hl
  have ll := len_tl p
  rw [u__is_number]
  cases qa : Txt.isascii p with
  | false =>
    have eo : okL (tl p) = false := by
      rw [Bool.eq_false_iff]
      intro z
      unfold okL at z
      simp only [Bool.and_eq_true, decide_eq_true_eq, Bool.not_eq_true', List.all_eq_true, dig] at z
      rw [e1, ← Bool.not_eq_true] at qa
      apply qa
      rw [List.all_eq_true]
      intro c hc
      have := (z.1.2 c hc).2
      exact decide_eq_true (by omega)
    rw [eo]
    simp only [b__is_number]
    simp [qa]
  | true =>
    have ha : ∀ c ∈ tl p, c < 128 := fun c hc => by
      rw [e1, List.all_eq_true] at qa
      simpa using qa c hc
    cases qd : Txt.isdigit p with
    | false =>
      have eo : okL (tl p) = false := by
        rw [Bool.eq_false_iff]
        intro z
        unfold okL at z
        simp only [Bool.and_eq_true, decide_eq_true_eq, Bool.not_eq_true', List.all_eq_true] at z
        rw [e2, ← Bool.not_eq_true] at qd
        apply qd
        rw [decide_eq_true z.1.1.1, Bool.true_and, List.all_eq_true]
        intro c hc
        rw [digit_ascii c (ha c hc)]
        exact z.1.2 c hc
      rw [eo]
      simp only [b__is_number]
      simp [qa, qd]
    | true =>
      rw [e2, Bool.and_eq_true, decide_eq_true_eq] at qd
      obtain ⟨q0, qd⟩ := qd
      have qd' : Txt.isdigit p = true := by rw [e2, decide_eq_true q0, qd]; rfl
      by_cases h5 : (tl p).length ≤ 5
      · have c5 : decide ((5 : Int) < (p.length : Int)) = false := decide_eq_false (by omega)
        have hdg : (tl p).all dig = true := by
          rw [List.all_eq_true] at qd ⊢
          intro c hc
          rw [← digit_ascii c (ha c hc)]
          exact qd c hc
        have eo : okL (tl p) = (decide (tl p = [48]) || !decide ((tl p).head? = some 48)) := by
          unfold okL
          rw [hdg, decide_eq_true q0, decide_eq_true (show (tl p).length < 6 by omega)]
          cases q : tl p with
          | nil => rw [q] at q0; simp at q0
          | cons c r =>
            by_cases hc : c = 48
            · subst hc
              cases r with
              | nil => rfl
              | cons d r => simp
            · simp [hc]
        rw [eo, ← e3, ← e4]
        clear e1 e2 e3 e4 eo
        simp [b__is_number, qa, qd', lp, c5]
        by_cases z : p = ("0" : Str)
        · simp [z]
        · simp [z]
      · have c5 : decide ((5 : Int) < (p.length : Int)) = true := decide_eq_true (by omega)
        have eo : okL (tl p) = false := by
          unfold okL
          rw [decide_eq_false (show ¬ (tl p).length < 6 by omega)]
          simp
        rw [eo]
        clear e1 e2 e3 e4 eo
        simp [b__is_number, qa, qd', lp, c5]
end K14
set_option Elab.async false
set_option linter.all false
set_option maxRecDepth 100000
set_option maxHeartbeats 4000000
namespace LW
open PySem L2 EE
abbrev prE (p : Nat × Nat) : EV := .tup [.int (p.1 : Int), .int (p.2 : Int)]
abbrev prD (p : Nat × Nat) : PyData := .tuple [.int (p.1 : Int), .int (p.2 : Int)]
def prs (ps : List (Nat × Nat)) : List EV := ps.map prE
theorem dat_pr {h : EH} (a b : Int) : dat h (.tup [.int a, .int b]) = some (.tuple [.int a, .int b]) := by
  simp [dat, dat0, dat0s]
theorem dat0s_prs (f : Nat → Option (List PyData)) : ∀ ps : List (Nat × Nat), dat0s f (prs ps) = some (ps.map prD)
  | [] => by simp [prs, dat0s]
  | p :: ps => by
    have := dat0s_prs f ps
    simp only [prs] at this ⊢
    simp [dat0s, dat0, this]
theorem datF_prs {h : EH} {t : Nat} {ps : List (Nat × Nat)} (e : lstAt h t = some (prs ps)) (m : Nat) : datF h (m + 1) t = some (ps.map prD) := by
  simp only [datF, e]
  exact dat0s_prs _ ps
theorem eqv_pr (a b c d : Int) : PyData.eqv (.tuple [.int a, .int b]) (.tuple [.int c, .int d]) = (decide (a = c) && decide (b = d)) := by
  simp only [PyData.eqv, PyData.eqvAll, Bool.and_true]
  rw [Bool.beq_eq_decide_eq, Bool.beq_eq_decide_eq]
theorem canLay_prs : ∀ ps : List (Nat × Nat), PyData.canLayAll0 (ps.map prD) = true
  | [] => by simp [PyData.canLayAll0]
  | p :: ps => by simp [PyData.canLayAll0, PyData.canLay0, canLay_prs ps]
theorem depth_prs : ∀ ps : List (Nat × Nat), PyData.depthAll (ps.map prD) ≤ 1
  | [] => by simp [PyData.depthAll]
  | p :: ps => by
    have := depth_prs ps
    simp only [List.map_cons, PyData.depthAll, PyData.depth]
    omega
theorem shaped_prs (ps : List (Nat × Nat)) : SeqAt.shaped (.list (ps.map prD)) = true := by
  unfold SeqAt.shaped
  have := depth_prs ps
  simp only [PyData.canLay0, canLay_prs, PyData.depth, Bool.true_and, decide_eq_true_eq]
  exact decide_eq_true (Nat.le_trans (Nat.succ_le_succ this) (show 2 ≤ 64 by decide))
theorem shaped_pr (a b : Int) : SeqAt.shaped (.tuple [.int a, .int b]) = true := by
  simp [SeqAt.shaped, PyData.canLay0, PyData.canLayAll0, PyData.depth, PyData.depthAll]
theorem f_inPr {h : EH} {t : Nat} {ps : List (Nat × Nat)} (e : lstAt h t = some (prs ps)) (a b : Nat) : fIn (.tup [.int (a : Int), .int (b : Int)]) (.ref t) h = .ok (.bl (decide ((a, b) ∈ ps))) h := by
  show fInL false _ _ _ = _
  simp only [fInL, dat_pr, datF_prs e 3, shaped_pr, shaped_prs, Bool.and_self, if_true]
  congr 2
  rw [Bool.eq_iff_iff]
  simp only [Bool.and_true, Bool.false_bne, List.any_map, List.any_eq_true, Function.comp_apply, decide_eq_true_eq]
  constructor
  · rintro ⟨⟨c, d⟩, hm, he⟩
    rw [eqv_pr] at he
    simp only [Bool.and_eq_true, decide_eq_true_eq] at he
    have e1 : c = a := by omega
    have e2 : d = b := by omega
    rw [← e1, ← e2]
    exact hm
  · intro hm
    exact ⟨(a, b), hm, by rw [eqv_pr]; simp⟩
def TiesOk (n : Nat) (ps : List (Nat × Nat)) : Prop := ∀ p ∈ ps, p.1 < n ∧ p.2 < n ∧ p.1 ≠ p.2
theorem other_ne {n a r : Int} (h2 : 2 ≤ n) (h8 : n ≤ 8) (ha : 0 ≤ a) (ha2 : a < n) (hr : 0 ≤ r) (hr2 : r < n - 1) : 0 ≤ (a + 1 + r) % n ∧ (a + 1 + r) % n < n ∧ (a + 1 + r) % n ≠ a := by
  have : n = 2 ∨ n = 3 ∨ n = 4 ∨ n = 5 ∨ n = 6 ∨ n = 7 ∨ n = 8 := by omega
  rcases this with rfl | rfl | rfl | rfl | rfl | rfl | rfl <;> omega
theorem prs_app (ps qs : List (Nat × Nat)) : prs ps ++ prs qs = prs (ps ++ qs) := by simp [prs]
theorem cut_drop (ps : List EV) (k : Nat) : cutE ps (some (k : Int)) none = ps.drop k := by
  unfold cutE
  rw [show HT.sIx ps.length 0 (some (k : Int)) = min k ps.length from HT.sIx_nat _ _ _, show HT.sIx ps.length ps.length none = ps.length from rfl]
  by_cases hk : k ≤ ps.length
  · rw [Nat.min_eq_left hk]
    apply List.take_of_length_le
    rw [List.length_drop]
    exact Nat.le_refl _
  · rw [Nat.min_eq_right (by omega), List.drop_of_length_le (Nat.le_refl _), List.drop_of_length_le (by omega)]
    simp
theorem ties {ns : List Int} {h : EH} {s n : Nat} {Q : EV → EH → Prop} (hs : St ns h s) (h2 : 2 ≤ n) (h8 : n ≤ 8) (q : ∀ t ps h', TiesOk n ps → ps.length ≤ 40 → mutAt h' t = some (prs ps) → h.length ≤ t → St ns h' s → Fr [s] h h' → Q (.ref t) h') : Tri (m__law_ties [.ref s, .int (n : Int)] h) Q := by
  rw [u__law_ties]
  simp [b__law_ties, tri_bind, f_mulL _ 3 (n : Int) (by decide) (by decide)]
  have hs1 : St ns (h ++ [.lst []] ++ [.lst [.int 3, .int (n + 1), .int (3 * n)]]) s := (hs.fr (Fr.app _ _ _)).fr (Fr.app _ _ _)
  have f1 : Fr [s] h (h ++ [.lst []] ++ [.lst [.int 3, .int (n + 1), .int (3 * n)]]) := (Fr.app _ _ _).trans (Fr.app _ _ _)
  have hc : h.length ≠ s := by have := hs.lt; omega
  have e0 : mutAt (h ++ [.lst []] ++ [.lst [.int 3, .int (n + 1), .int (3 * n)]]) h.length = some [] := mutAt_app mutAt_new
  have e1 : lstAt (h ++ [.lst []] ++ [.lst [.int 3, .int (n + 1), .int (3 * n)]]) (h ++ [EO.lst []]).length = some [.int 3, .int (n + 1), .int (3 * n)] := lstAt_new
  simp only [List.append_assoc, List.cons_append, List.nil_append, List.length_append, List.length_singleton] at hs1 f1 e0 e1
  refine drawnF hs1 (by decide) (by decide) fun r1 ha r1a r1b hsa fa la => ?_
  have e0a := fa.mut e0 (by simp [hc])
  have e1a := fa.lst e1 (by simp; have := hs.lt; omega)
  have f1a := f1.trans fa
  have : ∃ m : Int, fIx (.ref (h.length + 1)) (.int r1) ha = .ok (.int m) ha ∧ 0 < m ∧ m ≤ 24 := by
    have : r1 = 0 ∨ r1 = 1 ∨ r1 = 2 := by omega
    rcases this with rfl | rfl | rfl
    · exact ⟨3, f_ixL _ e1a 0 rfl rfl, by omega, by omega⟩
    · exact ⟨n + 1, f_ixL _ e1a 1 rfl rfl, by omega, by omega⟩
    · exact ⟨3 * n, f_ixL _ e1a 2 rfl rfl, by omega, by omega⟩
  obtain ⟨m, em, hm, hm2⟩ := this
  simp only [em, tri_ok]
  refine drawnF hsa hm (by omega) fun r2 hb r2a r2b hsb fb lb => ?_
  have e0b := fb.mut e0a (by simp [hc])
  have f1b := f1a.trans fb
  simp only [ap_kItR1 hb r2 (by omega) (by omega), tri_ok]
  refine tri_for (xs := rng 0 r2.toNat) (fun i es h' => ∃ ps a b c, es = [some (.ref s), some (.int n), some (.ref h.length), a, b, c, none] ∧ TiesOk n ps ∧ ps.length = i ∧ mutAt h' h.length = some (prs ps) ∧ St ns h' s ∧ Fr [s] h h')
    ⟨[], none, none, none, rfl, fun _ hp => by simp at hp, rfl, e0b, hsb, f1b⟩ (fun _ _ _ _ => rfl) ?_ ?_
  · rintro i x es h' K hx ⟨ps, a, b, c, rfl, hp, hpl, hmu, hst, hf⟩ hK _ _ _
    obtain ⟨hi, rfl⟩ := rng_at hx
    simp [tri_bind]
    refine drawnF hst (by omega) (by omega) fun r3 hc3 r3a r3b hsc fc lc => ?_
    have hmu3 := fc.mut hmu (by simp [hc])
    simp
    refine drawnF hsc (by omega) (by omega) fun r4 hc4 r4a r4b hsd fd ld => ?_
    have hmu4 := fd.mut hmu3 (by simp [hc])
    obtain ⟨o1, o2, o3⟩ := other_ne (n := (n : Int)) (by omega) (by omega) r3a r3b r4a r4b
    simp [f_mod _ _ _ (show (0 : Int) < n by omega), kBM_ref _ _ _ (lst_mut hmu4), m_append hmu4 (by simp [prs]; omega)]
    obtain ⟨k1, rfl⟩ := Int.eq_ofNat_of_zero_le r3a
    obtain ⟨k2, hk2⟩ := Int.eq_ofNat_of_zero_le o1
    rw [hk2] at o2 o3 ⊢
    have hlt := mutAt_lt hmu4
    refine hK _ _ ⟨ps ++ [(k1, k2)], _, _, _, rfl, ?_, by simp [hpl], ?_, ?_, ((hf.trans fc).trans fd).set (.inr (Nat.le_refl _))⟩
    · intro p hpm
      rcases List.mem_append.mp hpm with hpm | hpm
      · exact hp p hpm
      · rw [List.mem_singleton.mp hpm]
        exact ⟨by show k1 < n; omega, by show k2 < n; omega, by show k1 ≠ k2; omega⟩
    · rw [mutAt_set hlt, ← prs_app]
      rfl
    · obtain ⟨o, w1, w2, w3, w4⟩ := hsd
      refine ⟨o, by rw [List.getElem?_set_ne hc]; exact w1, w2, ?_, w4⟩
      rw [List.getElem?_set_ne]
      · exact w3
      · have := hs.lt
        omega
  · rintro es h' ⟨ps, a, b, c, rfl, hp, hpl, hmu, hst, hf⟩
    rw [rng_len] at hpl
    simp [tri_bind]
    refine drawnF hst (by decide) (by decide) fun r5 hd r5a r5b hse fe le => ?_
    have hmu5 := fe.mut hmu (by simp [hc])
    have f5 := hf.trans fe
    by_cases h5 : r5 = 0
    · simp [h5, ap_kItR1 hd ((n : Int) - 1) (by omega) (by omega), tri_bind]
      refine tri_lcP (xs := rng 0 (n - 1)) (fun _ => true) (fun i => prE (i, i + 1)) (by rw [rng_len]; omega) (fun _ _ => rfl) (fun i x h' K hx hf hK => ?_) (fun i x h' K hx hf _ hK => ?_) fun h6 f6 => ?_
      · simp
        exact hK _ (Fr.refl _ _)
      · obtain ⟨hi, rfl⟩ := rng_at hx
        simp [wip]
        exact hK _ (Fr.refl _ _)
      · rw [gvn_true, rng_len]
        have hst6 := (hse.fr f6).fr (Fr.app _ _ [EO.lst ((List.range (n - 1)).map fun i => prE (i, i + 1))])
        have hmu6 := (f6.trans (Fr.app _ _ [EO.lst ((List.range (n - 1)).map fun i => prE (i, i + 1))])).mut hmu5 (by simp)
        have hnew : lstAt (h6 ++ [EO.lst ((List.range (n - 1)).map fun i => prE (i, i + 1))]) h6.length = some ((List.range (n - 1)).map fun i => prE (i, i + 1)) := lstAt_new
        have f7 := f5.trans ((f6.trans (Fr.app _ _ [EO.lst ((List.range (n - 1)).map fun i => prE (i, i + 1))])).weak (by simp))
        generalize h6 ++ [EO.lst ((List.range (n - 1)).map fun i => prE (i, i + 1))] = h7 at *
        refine drawnF hst6 (by decide) (by decide) fun r8 h8' r8a r8b hs8 f8 l8 => ?_
        have hmu8 := f8.mut hmu6 (by simp [hc])
        have hne6 : h6.length ≠ s := by
          have := hs.lt
          have := f6.1
          have := fe.1
          have := hf.1
          omega
        have hnew8 := f8.lst hnew (by simp [hne6])
        obtain ⟨k, rfl⟩ := Int.eq_ofNat_of_zero_le r8a
        have ep : ((List.range (n - 1)).map fun i => prE (i, i + 1)) = prs ((List.range (n - 1)).map fun i => (i, i + 1)) := by
          unfold prs
          rw [List.map_map]
          rfl
        rw [ep] at hnew8
        simp [f_slice hnew8, cut_drop]
        have ed : (prs ((List.range (n - 1)).map fun i => (i, i + 1))).drop k = prs (((List.range (n - 1)).map fun i => (i, i + 1)).drop k) := by
          unfold prs
          rw [List.map_drop]
        rw [ed]
        have hmu9 := mutAt_app (t := [EO.lst (prs (((List.range (n - 1)).map fun i => (i, i + 1)).drop k))]) hmu8
        have hl9 : (prs ps).length + (prs (((List.range (n - 1)).map fun i => (i, i + 1)).drop k)).length ≤ 100000 := by
          simp [prs]
          omega
        simp [f_cat hmu9 mutAt_new hl9, prs_app]
        refine q _ (ps ++ ((List.range (n - 1)).map fun i => (i, i + 1)).drop k) _ ?_ ?_ ?_ ?_ ?_ ?_
        · intro p hpm
          rcases List.mem_append.mp hpm with hpm | hpm
          · exact hp p hpm
          · obtain ⟨i, hi, rfl⟩ := List.mem_map.mp (List.mem_of_mem_drop hpm)
            have := List.mem_range.mp hi
            exact ⟨by show i < n; omega, by show i + 1 < n; omega, by show i ≠ i + 1; omega⟩
        · simp
          omega
        · have e9 : h8'.length + 1 = (h8' ++ [EO.lst (prs (((List.range (n - 1)).map fun i => (i, i + 1)).drop k))]).length := by simp
          rw [e9, show h8' ++ [EO.lst (prs (((List.range (n - 1)).map fun i => (i, i + 1)).drop k)), EO.lst (prs (ps ++ ((List.range (n - 1)).map fun i => (i, i + 1)).drop k))] = (h8' ++ [EO.lst (prs (((List.range (n - 1)).map fun i => (i, i + 1)).drop k))]) ++ [EO.lst (prs (ps ++ ((List.range (n - 1)).map fun i => (i, i + 1)).drop k))] by simp]
          exact mutAt_new
        · have := (f7.trans f8).1
          omega
        · exact hs8.fr (Fr.app _ _ _)
        · exact (f7.trans f8).trans (Fr.app _ _ _)
    · simp [h5]
      exact q _ ps _ hp (by omega) hmu5 (Nat.le_refl _) hse f5
end LW
set_option Elab.async false
set_option linter.all false
set_option maxRecDepth 100000
set_option maxHeartbeats 4000000
namespace LW
open PySem L2 EE
def adj (ps : List (Nat × Nat)) (i k : Nat) : Bool := decide ((i, k) ∈ ps) || decide ((k, i) ∈ ps)
def nats (xs : List Nat) : List EV := xs.map fun (i : Nat) => EV.int (i : Int)
theorem gvn_nats (n : Nat) (p : Nat → Bool) : gvn n p (fun i => .int (i : Int)) = nats ((List.range n).filter p) := rfl
def Rows (h : EH) (r : Nat) (n : Nat) (f : Nat → List EV) : Prop := ∃ rs : List Nat, lstAt h r = some (rs.map EV.ref) ∧ rs.length = n ∧ ∀ (i k : Nat), rs[i]? = some k → lstAt h k = some (f i)
theorem Rows.fr {h h' : EH} {r n : Nat} {f : Nat → List EV} (e : Rows h r n f) (fr : Fr [] h h') : Rows h' r n f := by
  obtain ⟨rs, h1, h2, h3⟩ := e
  exact ⟨rs, fr.lst h1 (by simp), h2, fun i k hk => fr.lst (h3 i k hk) (by simp)⟩
theorem Rows.get {h : EH} {r n : Nat} {f : Nat → List EV} (e : Rows h r n f) {i : Nat} (hi : i < n) : ∃ k, fIx (.ref r) (.int (i : Int)) h = .ok (.ref k) h ∧ lstAt h k = some (f i) := by
  obtain ⟨rs, h1, h2, h3⟩ := e
  have hl : i < rs.length := by omega
  exact ⟨rs[i], f_ixL _ h1 i rfl (by rw [List.getElem?_map, List.getElem?_eq_getElem hl]; rfl), h3 i _ (List.getElem?_eq_getElem hl)⟩
theorem near {h : EH} {t n : Nat} {ps : List (Nat × Nat)} {Q : EV → EH → Prop} (ht : lstAt h t = some (prs ps)) (h8 : n ≤ 8) (q : ∀ r h', Rows h' r n (fun i => nats ((List.range n).filter (adj ps i))) → Fr [] h h' → Q (.ref r) h') : Tri (m__law_near [.int (n : Int), .ref t] h) Q := by
  rw [u__law_near]
  simp [b__law_near, tri_bind, ap_kItR1 h (n : Int) (by omega) (by omega)]
  refine tri_lcJ (xs := rng 0 n) (fun i acc h' => Fr [] h h' ∧ ∃ rs : List Nat, acc = rs.map EV.ref ∧ rs.length = i ∧ i ≤ n ∧ ∀ (j k : Nat), rs[j]? = some k → lstAt h' k = some (nats ((List.range n).filter (adj ps j))))
    ⟨Fr.refl _ _, [], rfl, rfl, Nat.zero_le _, fun j k hk => by simp at hk⟩ (fun _ _ _ _ => rfl) (fun i acc h' q => ?_) (fun i x acc h' K hx q _ hK => ?_) fun acc h' q2 => ?_
  · obtain ⟨_, rs, rfl, hl, hn, _⟩ := q
    simp
    omega
  · obtain ⟨hf, rs, rfl, hl, hn, hr⟩ := q
    obtain ⟨hi, rfl⟩ := rng_at hx
    simp
    refine hK _ fun Ke hKe => ?_
    simp [wip, tri_bind, ap_kItR1 h' (n : Int) (by omega) (by omega)]
    refine tri_lcP (xs := rng 0 n) (adj ps i) (fun k => .int (k : Int)) (by rw [rng_len]; omega) (fun _ _ => rfl) (fun k x h2 K hx2 hf2 hK2 => ?_) (fun k x h2 K hx2 hf2 _ hK2 => ?_) fun h2 f2 => ?_
    · obtain ⟨hk, rfl⟩ := rng_at hx2
      simp [wip, tri_bind, f_inPr ((hf.trans hf2).lst ht (by simp))]
      have e : adj ps i k = (decide ((i, k) ∈ ps) || decide ((k, i) ∈ ps)) := rfl
      by_cases h1 : (i, k) ∈ ps
      · simp [h1]
        have := hK2 h2 (Fr.refl _ _)
        simp [e, h1] at this
        exact this
      · simp [h1, f_inPr ((hf.trans hf2).lst ht (by simp))]
        have := hK2 h2 (Fr.refl _ _)
        simp [e, h1] at this
        exact this
    · obtain ⟨hk, rfl⟩ := rng_at hx2
      simp [wip]
      exact hK2 h2 (Fr.refl _ _)
    · rw [rng_len, gvn_nats]
      refine hKe _ _ ⟨(hf.trans f2).trans (Fr.app _ _ _), rs ++ [h2.length], by simp, by simp [hl], by omega, fun j k hjk => ?_⟩
      by_cases hj : j < rs.length
      · rw [List.getElem?_append_left hj] at hjk
        exact lstAt_app (f2.lst (hr j k hjk) (by simp))
      · have hj2 : j = rs.length := by
          have := (List.getElem?_eq_some_iff.mp hjk).1
          simp at this
          omega
        subst hj2
        simp at hjk
        subst hjk
        rw [hl]
        exact lstAt_new
  · obtain ⟨hf, rs, rfl, hl, hn, hr⟩ := q2
    rw [rng_len] at hl
    refine q _ _ ⟨rs, lstAt_new, hl, fun i k hk => lstAt_app (hr i k hk)⟩ (hf.trans (Fr.app _ _ _))
theorem whole (v lo hi : Int) (h : EH) : m_is_whole [.int v, .int lo, .int hi] h = .ok (.bl (decide (lo ≤ v) && decide (v ≤ hi))) h := by
  rw [u_is_whole]
  by_cases h1 : lo ≤ v
  · simp [b_is_whole, Ty.isa, h1]
  · simp [b_is_whole, Ty.isa, h1]
theorem count (n : Int) (h : EH) (h2 : 2 ≤ n) (h8 : n ≤ 8) : m_check_count [.int n] h = .ok .non h := by
  rw [u_check_count]
  simp [b_check_count, whole, h2, h8]
theorem house (a n : Int) (h : EH) (h2 : 0 ≤ a) (h8 : a < n) : m_check_house [.int a, .int n] h = .ok .non h := by
  rw [u_check_house]
  simp [b_check_house, whole, h2, show a ≤ n - 1 by omega]
theorem two (a b n k : Int) (h : EH) : m_is_two [.tup [.int a, .int b], .int n, .int k] h = .ok (.bl ((decide (0 ≤ a) && decide (a ≤ n)) && (decide (0 ≤ b) && decide (b ≤ k)))) h := by
  rw [u_is_two]
  have e1 : fIx (.tup [.int a, .int b]) (.int 0) h = .ok (.int a) h := f_ixT _ 0 rfl rfl
  have e2 : fIx (.tup [.int a, .int b]) (.int 1) h = .ok (.int b) h := f_ixT _ 1 rfl rfl
  by_cases hc : 0 ≤ a ∧ a ≤ n
  · simp [b_is_two, Ty.isa, e1, e2, whole, hc]
  · have : (decide (0 ≤ a) && decide (a ≤ n)) = false := by
      rw [← Bool.not_eq_true]
      simp
      omega
    simp [b_is_two, Ty.isa, e1, e2, whole, this]
theorem pair (a b n : Int) (h : EH) : m_is_pair [.tup [.int a, .int b], .int n] h = .ok (.bl ((decide (0 ≤ a) && decide (a ≤ n - 1)) && (decide (0 ≤ b) && decide (b ≤ n - 1)))) h := by
  rw [u_is_pair]
  simp [b_is_pair, two]
end LW
set_option Elab.async false
set_option linter.all false
set_option maxRecDepth 100000
set_option maxHeartbeats 1000000
namespace EE
open PySem L2
section
variable {α : Type}
theorem lc_eq {it : Wlk} {g : DG} {t : DT} {e : DE} {vs : List Nat} {es : ES} {h : EH} (l : List α) (f : α → EV) (st : α → ES) (p : α → Bool) (v : α → EV) (hc : it.cur h = some (l.map f)) (hl : l.length < 50000)
    (hg : ∀ (i : Nat) a, l[i]? = some a → g (it.tl i (f a)) (wip es vs) h = .ok (st a) h) (ht : ∀ a ∈ l, t (st a) h = .ok (p a) h) (he : ∀ a ∈ l, p a = true → e (st a) h = .ok (v a) h) :
    kLc g t e vs es it h = .ok (.ref h.length) (h ++ [.lst ((l.filter p).map v)]) := by
  have key : ∀ (m i : Nat), i + m = l.length + 1 → i ≤ l.length → lcGo it g t e vs m i (((l.take i).filter p).map v) es h = .ok ((l.filter p).map v) h := by
    intro m
    induction m with
    | zero => intro i hi hl; omega
    | succ m ih =>
      intro i hi hle
      unfold lcGo
      rw [hc]
      simp only [List.getElem?_map]
      cases ha : l[i]? with
      | none =>
        have := List.getElem?_eq_none_iff.mp ha
        simp only [Option.map_none]
        rw [List.take_of_length_le (by omega)]
      | some a =>
        have hlt := (List.getElem?_eq_some_iff.mp ha).1
        have hm := List.mem_of_getElem? ha
        simp only [Option.map_some, hg i a ha, bind_ok, ht a hm]
        have e1 : l.take (i + 1) = l.take i ++ [a] := by rw [List.take_add_one, ha]; rfl
        have e2 := ih (i + 1) (by omega) (by omega)
        rw [e1, List.filter_append, List.map_append] at e2
        by_cases c : p a = true
        · rw [if_pos c, he a hm c, bind_ok, if_pos]
          · simpa [c] using e2
          · have h1 := List.length_filter_le p (l.take i)
            have h2 : (l.take i).length ≤ l.length := by rw [List.length_take]; omega
            rw [List.length_map]
            omega
        · rw [if_neg c]
          simpa [c] using e2
  unfold kLc
  rw [hc]
  simp only [List.length_map]
  have := key (l.length + 1) 0 (by omega) (by omega)
  rw [List.take_zero] at this
  simp only [List.filter_nil, List.map_nil] at this
  rw [this]
  rfl
theorem lc_eq1 {it : Wlk} {j : Nat} {t : DT} {e : DE} {es : ES} {h : EH} (l : List α) (f : α → EV) (p : α → Bool) (v : α → EV) (hc : it.cur h = some (l.map f)) (hl : l.length < 50000) (hi : it.tl = fun _ x => x)
    (ht : ∀ a ∈ l, t ((wip es [j]).set j (some (f a))) h = .ok (p a) h) (he : ∀ a ∈ l, p a = true → e ((wip es [j]).set j (some (f a))) h = .ok (v a) h) :
    kLc (dName j) t e [j] es it h = .ok (.ref h.length) (h ++ [.lst ((l.filter p).map v)]) :=
  lc_eq l f (fun a => (wip es [j]).set j (some (f a))) p v hc hl (fun i a _ => by rw [hi]; rfl) ht he
theorem lock_eq {β : Type} {sel : DE} {es : ES} {h h0 : EH} {n : Nat} {t : Bool} {kvs : List (EV × EV)} {k : EH → Res β} {v : β} {tl : EH} (hs : sel es h = .ok (.ref n) h0) (hn : h[n]? = some (.dic t kvs))
    (hk : k (h.set n (.lkd t kvs)) = .ok v (h.set n (.lkd t kvs) ++ tl)) : rLock sel es h k = .ok v (h ++ tl) := by
  have hl := (List.getElem?_eq_some_iff.mp hn).1
  unfold rLock
  rw [hs]
  simp only [mdicAt_of hn, hk]
  have e : (h.set n (.lkd t kvs) ++ tl)[n]? = some (.lkd t kvs) := by
    rw [List.getElem?_append_left (by simpa using hl)]
    exact List.getElem?_set_self hl
  have e2 : (h.set n (.lkd t kvs) ++ tl).set n (.dic t kvs) = h ++ tl := by
    rw [List.set_append_left _ _ (by simpa using hl), List.set_set]
    congr 1
    apply List.ext_getElem?
    intro i
    by_cases c : n = i
    · subst c
      rw [List.getElem?_set_self hl, hn]
    · rw [List.getElem?_set_ne c]
  show (Res.ok v _).bind _ = _
  rw [bind_ok, lkAt_of e]
  simp only [e2]
theorem lockE_eq {sel d : DE} {es : ES} {h h0 : EH} {n : Nat} {t : Bool} {kvs : List (EV × EV)} {v : EV} {tl : EH} (hs : sel es h = .ok (.ref n) h0) (hn : h[n]? = some (.dic t kvs))
    (hk : d es (h.set n (.lkd t kvs)) = .ok v (h.set n (.lkd t kvs) ++ tl)) : dLockE sel d es h = .ok v (h ++ tl) := lock_eq hs hn hk
theorem dc_eq {kd : Bool} {it : Wlk} {g : DG} {t : DT} {k e : DE} {vs : List Nat} {es : ES} {h : EH} (l : List α) (f : α → EV) (st : α → ES) (p : α → Bool) (kx vx : α → EV) (D : List α → List (EV × EV)) (hc : it.cur h = some (l.map f)) (hl : ∀ i, (D (l.take i)).length < 50000)
    (hg : ∀ (i : Nat) a, l[i]? = some a → g (it.tl i (f a)) (wip es vs) h = .ok (st a) h) (ht : ∀ a ∈ l, t (st a) h = .ok (p a) h) (hk : ∀ a ∈ l, p a = true → k (st a) h = .ok (kx a) h) (he : ∀ a ∈ l, p a = true → e (st a) h = .ok (vx a) h)
    (h0 : D [] = []) (hD : ∀ i a, l[i]? = some a → if p a = true then dputE kd (D (l.take i)) (kx a) (vx a) = some (D (l.take (i + 1))) else D (l.take (i + 1)) = D (l.take i)) :
    kDc kd g t k e vs es it h = .ok (.ref h.length) (h ++ [.dic kd (D l)]) := by
  have key : ∀ (m i : Nat), i + m = l.length + 1 → i ≤ l.length → dcGo kd it g t k e vs m i (D (l.take i)) es h = .ok (D l) h := by
    intro m
    induction m with
    | zero => intro i hi hl; omega
    | succ m ih =>
      intro i hi hle
      unfold dcGo
      rw [hc]
      simp only [List.getElem?_map]
      cases ha : l[i]? with
      | none =>
        have := List.getElem?_eq_none_iff.mp ha
        simp only [Option.map_none]
        rw [List.take_of_length_le (by omega)]
      | some a =>
        have hlt := (List.getElem?_eq_some_iff.mp ha).1
        have hm := List.mem_of_getElem? ha
        simp only [Option.map_some, hg i a ha, bind_ok, ht a hm]
        have e2 := ih (i + 1) (by omega) (by omega)
        have hd := hD i a ha
        by_cases c : p a = true
        · rw [if_pos c] at hd ⊢
          rw [hk a hm c, bind_ok, he a hm c, bind_ok, hd]
          simp only
          rw [if_pos (hl i)]
          exact e2
        · rw [if_neg c] at hd ⊢
          rw [← hd]
          exact e2
  unfold kDc
  rw [hc]
  simp only [List.length_map]
  have := key (l.length + 1) 0 (by omega) (by omega)
  rw [List.take_zero, h0] at this
  rw [this]
  rfl
theorem for_fold {σ : Type} {it : Wlk} {g : DG} {b : DS} {es : ES} {h : EH} (l : List α) (f : α → EV) (F : σ → α → σ) (I : ES → EH → σ → Prop) (s : σ) (h0 : I es h s) (hc : ∀ es h s, I es h s → it.cur h = some (l.map f))
    (hstep : ∀ (i : Nat) a es h, l[i]? = some a → I es h ((l.take i).foldl F s) → ∃ es1, g (it.tl i (f a)) es h = .ok es1 h ∧ ∃ es2 h2, (b es1 h = .ok (.nx es2) h2 ∨ b es1 h = .ok (.ct es2) h2) ∧ I es2 h2 (F ((l.take i).foldl F s) a)) :
    ∃ es' h', kFor g b es it h = .ok (.nx es') h' ∧ I es' h' (l.foldl F s) := by
  have key : ∀ (m i : Nat) es h, i + m = l.length + 1 → i ≤ l.length → I es h ((l.take i).foldl F s) → ∃ es' h', forGo it g b m i es h = .ok (.nx es') h' ∧ I es' h' (l.foldl F s) := by
    intro m
    induction m with
    | zero => intro i es h hi hl; omega
    | succ m ih =>
      intro i es h hi hle hI
      unfold forGo
      rw [hc es h _ hI]
      simp only [List.getElem?_map]
      cases ha : l[i]? with
      | none =>
        have := List.getElem?_eq_none_iff.mp ha
        simp only [Option.map_none]
        rw [List.take_of_length_le (by omega)] at hI
        exact ⟨es, h, rfl, hI⟩
      | some a =>
        have hlt := (List.getElem?_eq_some_iff.mp ha).1
        obtain ⟨es1, e1, es2, h2, e2, hI2⟩ := hstep i a es h ha hI
        have et : l.take (i + 1) = l.take i ++ [a] := by rw [List.take_add_one, ha]; rfl
        obtain ⟨es', h', e3, hI3⟩ := ih (i + 1) es2 h2 (by omega) (by omega) (by rw [et, List.foldl_append]; exact hI2)
        refine ⟨es', h', ?_, hI3⟩
        simp only [Option.map_some, e1, bind_ok]
        rcases e2 with e2 | e2
        · rw [e2, bind_ok]; exact e3
        · rw [e2, bind_ok]; exact e3
  have := hc es h s h0
  unfold kFor
  rw [this]
  simp only [List.length_map]
  exact key (l.length + 1) 0 es h (by omega) (by omega) (by simpa using h0)
@[simp] theorem ap_while (t : DT) (b : DS) (es : ES) (h : EH) : dWhile t b es h = whGo t b whN es h := rfl
theorem whN_eq : whN = 1000000000 := by unfold whN; rfl
theorem tri_while {t : DT} {b : DS} {es : ES} {h : EH} {Q : Flw → EH → Prop} (J : Nat → ES → EH → Prop) {m : Nat} (hm : m < 1000000000) (h0 : J m es h)
    (hstep : ∀ m es h (K : Flw → EH → Prop), J m es h → (∀ m' es2 h2, m' < m → J m' es2 h2 → K (.nx es2) h2) → (∀ v h2, Q (.rt v) h2 → K (.rt v) h2) → Tri (t es h) fun c h1 => if c = true then Tri (b es h1) K else Q (.nx es) h1) : Tri (whGo t b whN es h) Q := by
  have key : ∀ (m f : Nat) es h, m < f → J m es h → Tri (whGo t b f es h) Q := by
    intro m
    induction m using Nat.strongRecOn with
    | ind m ih =>
      intro f es h hf hJ
      cases f with
      | zero => omega
      | succ f =>
        unfold whGo
        rw [tri_bind]
        refine (hstep m es h (fun fl h2 => match fl with
          | .nx es2 => ∃ m', m' < m ∧ J m' es2 h2
          | .rt v => Q (.rt v) h2
          | _ => False) hJ (fun m' es2 h2 a b => ⟨m', a, b⟩) fun v h2 q => q).mono fun c h1 hc => ?_
        cases c with
        | false => exact hc
        | true =>
          simp only [if_true] at hc ⊢
          rw [tri_bind]
          refine hc.mono fun fl h2 q => ?_
          cases fl with
          | nx es2 =>
            obtain ⟨m', h1, h2⟩ := q
            exact ih m' h1 f es2 _ (by omega) h2
          | rt v => exact q
          | bk _ => exact q.elim
          | ct _ => exact q.elim
  exact key m whN es h (by rw [whN_eq]; exact hm) h0
end
end EE
set_option Elab.async false
set_option linter.all false
set_option maxRecDepth 100000
set_option maxHeartbeats 4000000
namespace LW
open PySem L2 EE
def nbr (ps : List (Nat × Nat)) (j : Nat) : List Nat := ps.flatMap fun p => (if p.1 = j then [p.2] else []) ++ (if p.2 = j then [p.1] else [])
theorem nbr_mem {ps : List (Nat × Nat)} {j k : Nat} : k ∈ nbr ps j ↔ adj ps j k = true := by
  unfold nbr adj
  simp only [List.mem_flatMap, Bool.or_eq_true, decide_eq_true_eq, List.mem_append]
  constructor
  · rintro ⟨⟨a, b⟩, hm, h | h⟩
    · by_cases e : a = j
      · simp [e] at h
        subst h e
        exact .inl hm
      · simp [e] at h
    · by_cases e : b = j
      · simp [e] at h
        subst h e
        exact .inr hm
      · simp [e] at h
  · rintro (h | h)
    · exact ⟨(j, k), h, .inl (by simp)⟩
    · exact ⟨(k, j), h, .inr (by simp)⟩
theorem nbr_snoc (ps : List (Nat × Nat)) (a b j : Nat) : nbr (ps ++ [(a, b)]) j = (nbr ps j ++ (if a = j then [b] else [])) ++ (if b = j then [a] else []) := by
  unfold nbr
  simp
theorem nbr_len (ps : List (Nat × Nat)) (j : Nat) : (nbr ps j).length ≤ 2 * ps.length := by
  induction ps with
  | nil => simp [nbr]
  | cons p ps ih =>
    have e : nbr (p :: ps) j = ((if p.1 = j then [p.2] else []) ++ (if p.2 = j then [p.1] else [])) ++ nbr ps j := by simp [nbr]
    rw [e]
    simp only [List.length_append, List.length_cons]
    have h1 : (if p.1 = j then [p.2] else []).length ≤ 1 := by split <;> simp
    have h2 : (if p.2 = j then [p.1] else []).length ≤ 1 := by split <;> simp
    omega
theorem nats_app (a b : List Nat) : nats a ++ nats b = nats (a ++ b) := by simp [nats]
def Bank (h : EH) (b n : Nat) (f : Nat → List Nat) : Prop := ∀ j, j < n → mutAt h (b + j) = some (nats (f j))
theorem Bank.push {h : EH} {b n : Nat} {f : Nat → List Nat} (B : Bank h b n f) {i c : Nat} (hi : i < n) : Bank (h.set (b + i) (.lst (nats (f i) ++ [.int (c : Int)]))) b n (fun j => f j ++ (if i = j then [c] else [])) := fun j hj => by
  have hl := mutAt_lt (B j hj)
  by_cases e : i = j
  · subst e
    rw [mutAt_set hl]
    simp only [if_pos, ← nats_app]
    rfl
  · rw [mutAt_ne (by omega), B j hj]
    simp [e]
theorem neighbours {h : EH} {t n : Nat} {ps : List (Nat × Nat)} {Q : EV → EH → Prop} (ht : lstAt h t = some (prs ps)) (hp : TiesOk n ps) (hl : ps.length ≤ 100) (h2 : 2 ≤ n) (h8 : n ≤ 8)
    (q : ∀ r h', Rows h' r n (fun i => nats (nbr ps i)) → Fr [] h h' → Q (.ref r) h') : Tri (m__neighbours [.int (n : Int), .ref t] h) Q := by
  rw [u__neighbours]
  simp [b__neighbours, tri_bind, count (n : Int) h (by omega) (by omega), kItL_ref ht]
  refine tri_for (xs := prs ps) (fun i es h' => h' = h ∧ ∃ x, es = [some (.int n), some (.ref t), x, none, none, none, none]) ⟨rfl, none, rfl⟩ (fun i es h' ⟨e, _⟩ => by subst e; exact ht) ?_ ?_
  · rintro i v es h' K hv ⟨rfl, x, rfl⟩ hK _ _ _
    unfold prs at hv
    rw [List.getElem?_map] at hv
    obtain ⟨p, hn, rfl⟩ := Option.map_eq_some_iff.mp hv
    obtain ⟨a, b⟩ := p
    obtain ⟨ha, hb, hab⟩ := hp _ (List.mem_of_getElem? hn)
    simp only at ha hb hab
    have e1 : fIx (.tup [.int (a : Int), .int (b : Int)]) (.int 0) h' = .ok (.int a) h' := f_ixT _ 0 rfl rfl
    have e2 : fIx (.tup [.int (a : Int), .int (b : Int)]) (.int 1) h' = .ok (.int b) h' := f_ixT _ 1 rfl rfl
    simp [tri_bind, pair, e1, e2, show (a : Int) ≤ n - 1 by omega, show (b : Int) ≤ n - 1 by omega, show ¬ (a : Int) = b by omega]
    exact hK _ _ ⟨rfl, _, rfl⟩
  · rintro es h' ⟨rfl, x, rfl⟩
    simp [tri_bind, ap_kItR1 h' (n : Int) (by omega) (by omega)]
    refine tri_lcJ (xs := rng 0 n) (fun i acc h2 => h2 = h' ++ List.replicate i (.lst []) ∧ acc = (List.range i).map (fun j => EV.ref (h'.length + j)) ∧ i ≤ n) ⟨by simp, by simp, Nat.zero_le _⟩ (fun _ _ _ _ => rfl) (fun i acc h2 q2 => by obtain ⟨_, rfl, hn⟩ := q2; simp; omega)
      (fun i x acc h2 K hx q2 _ hK => ?_) fun acc h2 q2 => ?_
    · obtain ⟨rfl, rfl, hn⟩ := q2
      obtain ⟨hi, rfl⟩ := rng_at hx
      simp
      refine hK _ fun Ke hKe => ?_
      simp
      refine hKe _ _ ⟨?_, ?_, by omega⟩
      · rw [List.replicate_succ']
      · rw [List.range_succ, List.map_append]
        rfl
    · obtain ⟨rfl, rfl, hn⟩ := q2
      rw [rng_len]
      generalize eh2 : h' ++ List.replicate n (EO.lst []) = h2
      have l2 : h2.length = h'.length + n := by rw [← eh2]; simp
      have f2 : Fr [] h' h2 := by rw [← eh2]; exact Fr.app _ _ _
      have B0 : Bank (h2 ++ [.lst ((List.range n).map fun j => EV.ref (h'.length + j))]) h'.length n (nbr []) := fun j hj => by
        refine mutAt_app ?_
        rw [← eh2]
        unfold mutAt
        rw [List.getElem?_append_right (by omega), Nat.add_sub_cancel_left, List.getElem?_replicate, if_pos hj]
        rfl
      have e0 : lstAt (h2 ++ [.lst ((List.range n).map fun j => EV.ref (h'.length + j))]) h2.length = some ((List.range n).map fun j => EV.ref (h'.length + j)) := lstAt_new
      have f3 : Fr [] h' (h2 ++ [.lst ((List.range n).map fun j => EV.ref (h'.length + j))]) := f2.trans (Fr.app _ _ _)
      generalize h2 ++ [.lst ((List.range n).map fun j => EV.ref (h'.length + j))] = h3 at *
      simp [tri_bind, kItL_ref (f3.lst ht (by simp))]
      refine tri_for (xs := prs ps) (fun i es h4 => ∃ x y z, es = [some (.int n), some (.ref t), x, some (.ref h2.length), y, z, none] ∧ Fr [] h' h4 ∧ Bank h4 h'.length n (nbr (ps.take i)) ∧ lstAt h4 h2.length = some ((List.range n).map fun j => EV.ref (h'.length + j)))
        ⟨x, none, none, rfl, f3, by simpa using B0, e0⟩ (fun i es h4 ⟨_, _, _, _, f, _⟩ => f.lst ht (by simp)) ?_ ?_
      · rintro i v es h4 K hv ⟨x, y, z, rfl, f4, B4, e4⟩ hK _ _ _
        unfold prs at hv
        rw [List.getElem?_map] at hv
        obtain ⟨p, hpi, rfl⟩ := Option.map_eq_some_iff.mp hv
        obtain ⟨a, b⟩ := p
        obtain ⟨ha, hb, hab⟩ := hp _ (List.mem_of_getElem? hpi)
        simp only at ha hb hab
        have ia : fIx (.ref h2.length) (.int (a : Int)) h4 = .ok (.ref (h'.length + a)) h4 := f_ixL _ e4 a rfl (by simp [ha])
        have hil := (List.getElem?_eq_some_iff.mp hpi).1
        have len1 := nbr_len (ps.take i) a
        have len2 := nbr_len (ps.take i) b
        simp only [List.length_take] at len1 len2
        have l1 : (nats (nbr (ps.take i) a)).length < 100000 := by simp [nats]; omega
        have B5 := B4.push (c := b) ha
        have e5 : lstAt (h4.set (h'.length + a) (.lst (nats (nbr (ps.take i) a) ++ [.int (b : Int)]))) h2.length = some ((List.range n).map fun j => EV.ref (h'.length + j)) := by
          rw [lstAt_ne (by omega)]
          exact e4
        have f5 : Fr [] h' (h4.set (h'.length + a) (.lst (nats (nbr (ps.take i) a) ++ [.int (b : Int)]))) := f4.set (.inr (by omega))
        simp [tri_bind, ia, kBM_ref _ _ _ (lst_mut (B4 a ha)), m_append (B4 a ha) l1]
        generalize h4.set (h'.length + a) (.lst (nats (nbr (ps.take i) a) ++ [.int (b : Int)])) = h5 at *
        have ib : fIx (.ref h2.length) (.int (b : Int)) h5 = .ok (.ref (h'.length + b)) h5 := f_ixL _ e5 b rfl (by simp [hb])
        have l3 : (nats (nbr (ps.take i) b ++ if a = b then [b] else [])).length < 100000 := by
          rw [if_neg hab]
          simp [nats]
          omega
        have B6 := B5.push (c := a) hb
        simp [ib, kBM_ref _ _ _ (lst_mut (B5 b hb)), m_append (B5 b hb) l3]
        refine hK _ _ ⟨_, _, _, rfl, f5.set (.inr (by omega)), ?_, ?_⟩
        · rw [List.take_add_one, hpi]
          have : nbr (ps.take i ++ [(a, b)]) = fun j => (nbr (ps.take i) j ++ (if a = j then [b] else [])) ++ (if b = j then [a] else []) := by
            funext j
            exact nbr_snoc _ a b j
          show Bank _ _ _ (nbr (ps.take i ++ [(a, b)]))
          rw [this]
          exact B6
        · rw [lstAt_ne (by omega)]
          exact e5
      · rintro es h4 ⟨x, y, z, rfl, f4, B4, e4⟩
        simp
        refine q _ _ ⟨(List.range n).map fun j => h'.length + j, ?_, by simp, fun i k hk => ?_⟩ f4
        · rw [e4, List.map_map]
          rfl
        · rw [List.getElem?_map] at hk
          obtain ⟨j, hj, rfl⟩ := Option.map_eq_some_iff.mp hk
          obtain ⟨h5, h6⟩ := List.getElem?_eq_some_iff.mp hj
          simp at h5 h6
          subst h6
          have := B4 i h5
          rw [List.take_of_length_le (by simp [prs])] at this
          exact lst_mut this
end LW
set_option Elab.async false
set_option linter.all false
set_option maxRecDepth 100000
set_option maxHeartbeats 4000000
namespace LW
open PySem L2 EE
abbrev naD (xs : List Nat) : List PyData := xs.map fun (i : Nat) => PyData.int (i : Int)
theorem dat0s_nats (f : Nat → Option (List PyData)) : ∀ xs : List Nat, dat0s f (nats xs) = some (naD xs)
  | [] => by simp [nats, dat0s]
  | p :: ps => by
    have := dat0s_nats f ps
    simp only [nats] at this ⊢
    simp [dat0s, dat0, this]
theorem datF_nats {h : EH} {t : Nat} {xs : List Nat} (e : lstAt h t = some (nats xs)) (m : Nat) : datF h (m + 1) t = some (naD xs) := by
  simp only [datF, e]
  exact dat0s_nats _ xs
theorem canLay_nats : ∀ xs : List Nat, PyData.canLayAll0 (naD xs) = true
  | [] => by simp [PyData.canLayAll0]
  | p :: ps => by
    have := canLay_nats ps
    simp [PyData.canLayAll0, PyData.canLay0, this]
theorem depth_nats : ∀ xs : List Nat, PyData.depthAll (naD xs) = 0
  | [] => by simp [PyData.depthAll]
  | p :: ps => by
    have := depth_nats ps
    simp only [List.map_cons, PyData.depthAll, PyData.depth, this]
    rfl
theorem shaped_nats (xs : List Nat) : SeqAt.shaped (.list (naD xs)) = true := by
  unfold SeqAt.shaped
  simp [PyData.canLay0, canLay_nats, PyData.depth, depth_nats]
theorem shaped_int (a : Int) : SeqAt.shaped (.int a) = true := by
  simp [SeqAt.shaped, PyData.canLay0, PyData.depth]
theorem f_inNat {h : EH} {t : Nat} {xs : List Nat} (e : lstAt h t = some (nats xs)) (a : Nat) : fIn (.int (a : Int)) (.ref t) h = .ok (.bl (decide (a ∈ xs))) h := by
  show fInL false _ _ _ = _
  have ed : dat h (.int (a : Int)) = some (.int a) := by simp [dat, dat0]
  simp only [fInL, ed, datF_nats e 3, shaped_int, shaped_nats, Bool.and_self, if_true]
  congr 2
  rw [Bool.eq_iff_iff]
  simp only [Bool.false_bne, List.any_map, List.any_eq_true, Function.comp_apply, decide_eq_true_eq, PyData.eqv]
  constructor
  · rintro ⟨b, hm, he⟩
    have e1 := eq_of_beq he
    have : b = a := by omega
    rw [← this]
    exact hm
  · intro hm
    exact ⟨a, hm, by simp⟩
theorem f_notInNat {h : EH} {t : Nat} {xs : List Nat} (e : lstAt h t = some (nats xs)) (a : Nat) : fNotIn (.int (a : Int)) (.ref t) h = .ok (.bl (decide (a ∉ xs))) h := by
  have h1 := f_inNat e a
  show fInL true _ _ _ = _
  have h1 : fInL false (.int (a : Int)) (.ref t) h = .ok (.bl (decide (a ∈ xs))) h := h1
  have ed : dat h (.int (a : Int)) = some (.int a) := by simp [dat, dat0]
  simp only [fInL, ed, datF_nats e 3, shaped_int, shaped_nats, Bool.and_self, if_true] at h1 ⊢
  injection h1 with h1 _
  injection h1 with h1
  simp only [Bool.false_bne] at h1
  rw [h1]
  simp
theorem dat_lst {h : EH} {n : Nat} {xs : List EV} {ds : List PyData} (e : lstAt h n = some xs) (hd : dat0s (datF h 3) xs = some ds) : dat h (.ref n) = some (.list ds) := by
  have h4 : datF h 4 n = some ds := by
    rw [show datF h 4 n = (match lstAt h n with | some xs => dat0s (datF h 3) xs | none => none) from rfl, e]
    exact hd
  unfold dat
  simp only [dat0, h4, Option.map_some]
theorem f_neNil {h : EH} {a b : Nat} {xs : List Nat} (ha : lstAt h a = some (nats xs)) (hb : lstAt h b = some []) : fNe (.ref a) (.ref b) h = .ok (.bl (!xs.isEmpty)) h := by
  show (Res.no).orElse _ = _
  have e1 := dat_lst ha (dat0s_nats _ xs)
  have e2 := dat_lst hb (show dat0s (datF h 3) [] = some [] by simp [dat0s])
  simp only [orE_no, fEqD, e1, e2, shaped_nats, Bool.true_and]
  rw [if_pos (by rfl)]
  cases xs with
  | nil => simp [PyData.eqv, PyData.eqvAll]
  | cons x xs => simp [PyData.eqv, PyData.eqvAll]
theorem eqv_prs : ∀ ps : List (Nat × Nat), PyData.eqvAll (ps.map prD) (ps.map prD) = true
  | [] => by simp [PyData.eqvAll]
  | p :: ps => by
    have := eqv_prs ps
    simp [PyData.eqvAll, PyData.eqv, this]
theorem f_nePrs {h : EH} {a b : Nat} {ps : List (Nat × Nat)} (ha : lstAt h a = some (prs ps)) (hb : lstAt h b = some (prs ps)) : fNe (.ref a) (.ref b) h = .ok (.bl false) h := by
  show (Res.no).orElse _ = _
  have e1 := dat_lst ha (dat0s_prs _ ps)
  have e2 := dat_lst hb (dat0s_prs _ ps)
  simp only [orE_no, fEqD, e1, e2, shaped_prs, Bool.and_self, if_true]
  simp [PyData.eqv, eqv_prs]
theorem gvn_filter (p : Nat → Bool) (xs : List Nat) : gvn xs.length (fun i => p (xs.getD i 0)) (fun i => .int ((xs.getD i 0 : Nat) : Int)) = nats (xs.filter p) := by
  have key : ∀ m, m ≤ xs.length → gvn m (fun i => p (xs.getD i 0)) (fun i => .int ((xs.getD i 0 : Nat) : Int)) = nats ((xs.take m).filter p) := by
    intro m
    induction m with
    | zero => intro _; simp [gvn, nats]
    | succ m ih =>
      intro hm
      have hlt : m < xs.length := by omega
      have ed : xs.getD m 0 = xs[m] := by simp [List.getD, hlt]
      rw [List.take_add_one, List.getElem?_eq_getElem hlt]
      simp only [Option.toList, List.filter_append]
      cases hp : p xs[m] with
      | true =>
        rw [gvn_yes (by rw [ed]; exact hp), ih (by omega), ed]
        simp [nats, hp]
      | false =>
        rw [gvn_no (by rw [ed]; exact hp), ih (by omega)]
        simp [nats, hp]
  rw [key _ (Nat.le_refl _), List.take_length]
theorem lc_nats {it : Wlk} {j : Nat} {t : DT} {vs : List Nat} {xs : List Nat} {es : ES} {h : EH} {Q : EV → EH → Prop} (p : Nat → Bool) (hl : xs.length < 50000) (hcur : ∀ h', Fr [] h h' → it.cur h' = some (nats xs)) (htl : ∀ i x, it.tl i x = x) (hj : j < es.length) (hvs : vs = [j])
    (ht : ∀ (x : Nat) h' (K : Bool → EH → Prop), x ∈ xs → Fr [] h h' → (∀ h2, Fr [] h' h2 → K (p x) h2) → Tri (t (es.set j (some (.int (x : Int)))) h') K)
    (hend : ∀ h', Fr [] h h' → Q (.ref h'.length) (h' ++ [.lst (nats (xs.filter p))])) : Tri (kLc (dName j) t (dVar j) vs es it h) Q := by
  subst hvs
  have eset : ∀ v : EV, (wip es [j]).set j (some v) = es.set j (some v) := fun v => by
    show ((es.set j none).set j (some v)) = _
    rw [List.set_set]
  refine tri_lcP (xs := nats xs) (fun i => p (xs.getD i 0)) (fun i => .int ((xs.getD i 0 : Nat) : Int)) (by simpa [nats] using hl) hcur (fun i v h' K hv hf hK => ?_) (fun i v h' K hv hf _ hK => ?_) fun h' hf => ?_
  · unfold nats at hv
    rw [List.getElem?_map] at hv
    obtain ⟨x, hx, rfl⟩ := Option.map_eq_some_iff.mp hv
    have ed : xs.getD i 0 = x := by simp [List.getD, hx]
    rw [htl, eset]
    rw [ed] at hK
    exact ht x h' K (List.mem_of_getElem? hx) hf hK
  · unfold nats at hv
    rw [List.getElem?_map] at hv
    obtain ⟨x, hx, rfl⟩ := Option.map_eq_some_iff.mp hv
    have ed : xs.getD i 0 = x := by simp [List.getD, hx]
    rw [htl, eset]
    rw [ed] at hK
    simp [List.getElem?_set_self hj]
    exact hK _ (Fr.refl _ _)
  · have : (nats xs).length = xs.length := by simp [nats]
    rw [this, gvn_filter]
    exact hend h' hf
theorem St.no {ns : List Int} {h : EH} {s k : Nat} (hs : St ns h s) {xs : List Nat} (e : lstAt h k = some (nats xs)) : k ≠ s := by
  rintro rfl
  obtain ⟨o, h1, ⟨b, x, l, rfl, _⟩, _⟩ := hs
  unfold lstAt at e
  rw [h1] at e
  cases xs with
  | nil => simp [nats] at e
  | cons y ys => simp [nats] at e
theorem St.noR {ns : List Int} {h : EH} {s k : Nat} (hs : St ns h s) {xs : List Nat} (e : lstAt h k = some (xs.map EV.ref)) : k ≠ s := by
  rintro rfl
  obtain ⟨o, h1, ⟨b, x, l, rfl, _⟩, _⟩ := hs
  unfold lstAt at e
  rw [h1] at e
  cases xs with
  | nil => simp at e
  | cons y ys =>
    cases ys with
    | nil => simp at e
    | cons z zs => simp at e
theorem Rows.frS {ns : List Int} {h h' : EH} {s r n : Nat} {g : Nat → List Nat} (hs : St ns h s) (e : Rows h r n fun i => nats (g i)) (f : Fr [s] h h') : Rows h' r n fun i => nats (g i) := by
  obtain ⟨rs, h1, h2, h3⟩ := e
  exact ⟨rs, f.lst h1 (by simp [hs.noR h1]), h2, fun i k hk => f.lst (h3 i k hk) (by simp [hs.no (h3 i k hk)])⟩
end LW
set_option Elab.async false
set_option linter.all false
set_option maxRecDepth 100000
set_option maxHeartbeats 1000000
namespace EE
open PySem L2
mutual
def Pl : EV → Bool
  | .non => true
  | .int _ => true
  | .str x => PyData.strOk x
  | .tup xs => Pls xs
  | _ => false
def Pls : List EV → Bool
  | [] => true
  | x :: xs => Pl x && Pls xs
end
mutual
def datP : EV → PyData
  | .non => .none
  | .int i => .int i
  | .str s => .str s
  | .tup xs => .tuple (datPs xs)
  | _ => .none
def datPs : List EV → List PyData
  | [] => []
  | x :: xs => datP x :: datPs xs
end
mutual
def dep : EV → Nat
  | .tup xs => deps xs + 1
  | _ => 0
def deps : List EV → Nat
  | [] => 0
  | x :: xs => max (dep x) (deps xs)
end
mutual
theorem dat0_pl (f : Nat → Option (List PyData)) : ∀ x, Pl x = true → dat0 f x = some (datP x)
  | .non, _ => by simp [dat0, datP]
  | .int i, _ => by simp [dat0, datP]
  | .str s, _ => by simp [dat0, datP]
  | .tup xs, h => by
    have := dat0s_pl f xs (by simpa [Pl] using h)
    simp [dat0, datP, this]
  | .bl b, h => by simp [Pl] at h
  | .ref n, h => by simp [Pl] at h
  | .ty n, h => by simp [Pl] at h
  | .exc _ _ _ _, h => by simp [Pl] at h
theorem dat0s_pl (f : Nat → Option (List PyData)) : ∀ xs, Pls xs = true → dat0s f xs = some (datPs xs)
  | [], _ => by simp [dat0s, datPs]
  | x :: xs, h => by
    simp only [Pls, Bool.and_eq_true] at h
    simp [dat0s, datPs, dat0_pl f x h.1, dat0s_pl f xs h.2]
end
mutual
theorem eqv_pl : ∀ x y, Pl x = true → Pl y = true → (PyData.eqv (datP x) (datP y) = true ↔ x = y)
  | .non, y, _, hy => by cases y <;> simp [Pl] at hy <;> simp [datP, PyData.eqv]
  | .int i, y, _, hy => by cases y <;> simp [Pl] at hy <;> simp [datP, PyData.eqv]
  | .str s, y, _, hy => by cases y <;> simp [Pl] at hy <;> simp [datP, PyData.eqv]
  | .tup xs, y, hx, hy => by
    cases y with
    | tup ys =>
      simp only [Pl] at hx hy
      have := eqvs_pl xs ys hx hy
      simp [datP, PyData.eqv, this]
    | non => simp [datP, PyData.eqv]
    | int i => simp [datP, PyData.eqv]
    | str s => simp [datP, PyData.eqv]
    | bl b => simp [Pl] at hy
    | ref n => simp [Pl] at hy
    | ty n => simp [Pl] at hy
    | exc _ _ _ _ => simp [Pl] at hy
  | .bl b, _, h, _ => by simp [Pl] at h
  | .ref n, _, h, _ => by simp [Pl] at h
  | .ty n, _, h, _ => by simp [Pl] at h
  | .exc _ _ _ _, _, h, _ => by simp [Pl] at h
theorem eqvs_pl : ∀ xs ys, Pls xs = true → Pls ys = true → (PyData.eqvAll (datPs xs) (datPs ys) = true ↔ xs = ys)
  | [], [], _, _ => by simp [datPs, PyData.eqvAll]
  | [], y :: ys, _, _ => by simp [datPs, PyData.eqvAll]
  | x :: xs, [], _, _ => by simp [datPs, PyData.eqvAll]
  | x :: xs, y :: ys, hx, hy => by
    simp only [Pls, Bool.and_eq_true] at hx hy
    simp [datPs, PyData.eqvAll, eqv_pl x y hx.1 hy.1, eqvs_pl xs ys hx.2 hy.2]
end
mutual
theorem canLay_pl : ∀ x, Pl x = true → (datP x).canLay0 = true
  | .non, _ => by simp [datP, PyData.canLay0]
  | .int i, _ => by simp [datP, PyData.canLay0]
  | .str s, h => by simpa [datP, PyData.canLay0, Pl] using h
  | .tup xs, h => by simp [datP, PyData.canLay0, canLays_pl xs (by simpa [Pl] using h)]
  | .bl b, h => by simp [Pl] at h
  | .ref n, h => by simp [Pl] at h
  | .ty n, h => by simp [Pl] at h
  | .exc _ _ _ _, h => by simp [Pl] at h
theorem canLays_pl : ∀ xs, Pls xs = true → PyData.canLayAll0 (datPs xs) = true
  | [], _ => by simp [datPs, PyData.canLayAll0]
  | x :: xs, h => by
    simp only [Pls, Bool.and_eq_true] at h
    simp [datPs, PyData.canLayAll0, canLay_pl x h.1, canLays_pl xs h.2]
end
mutual
theorem depth_pl : ∀ x, (datP x).depth ≤ dep x
  | .non => by simp [datP, PyData.depth]
  | .int i => by simp [datP, PyData.depth]
  | .str s => by simp [datP, PyData.depth]
  | .tup xs => by
    have := depths_pl xs
    simp only [datP, PyData.depth, dep]
    omega
  | .bl b => by simp [datP, PyData.depth]
  | .ref n => by simp [datP, PyData.depth]
  | .ty n => by simp [datP, PyData.depth]
  | .exc _ d _ _ => by cases d <;> simp [datP, PyData.depth]
theorem depths_pl : ∀ xs, PyData.depthAll (datPs xs) ≤ deps xs
  | [] => by simp [datPs, PyData.depthAll]
  | x :: xs => by
    have h1 := depth_pl x
    have h2 := depths_pl xs
    simp only [datPs, PyData.depthAll, deps]
    omega
end
theorem shaped_pl {x : EV} (hx : Pl x = true) (h : dep x ≤ 40) : SeqAt.shaped (datP x) = true := by
  unfold SeqAt.shaped
  have := depth_pl x
  rw [canLay_pl x hx, Bool.true_and]
  exact decide_eq_true (by omega)
theorem shaped_pls {xs : List EV} (hx : Pls xs = true) (h : deps xs ≤ 40) : SeqAt.shaped (.list (datPs xs)) = true := by
  unfold SeqAt.shaped
  have := depths_pl xs
  simp only [PyData.canLay0, canLays_pl xs hx, PyData.depth, Bool.true_and]
  exact decide_eq_true (by omega)
theorem dat_pl {h : EH} {x : EV} (hx : Pl x = true) : dat h x = some (datP x) := dat0_pl _ x hx
theorem datF_pl {h : EH} {n : Nat} {xs : List EV} (e : lstAt h n = some xs) (hx : Pls xs = true) (m : Nat) : datF h (m + 1) n = some (datPs xs) := by
  simp only [datF, e]
  exact dat0s_pl _ xs hx
theorem dat_lstP {h : EH} {n : Nat} {xs : List EV} (e : lstAt h n = some xs) (hx : Pls xs = true) : dat h (.ref n) = some (.list (datPs xs)) := LW.dat_lst e (dat0s_pl _ xs hx)
theorem mem_datPs {x : EV} (hx : Pl x = true) : ∀ {xs : List EV}, Pls xs = true → ((datPs xs).any (fun z => PyData.eqv z (datP x)) = true ↔ x ∈ xs)
  | [], _ => by simp [datPs]
  | y :: ys, h => by
    simp only [Pls, Bool.and_eq_true] at h
    have ih := mem_datPs hx h.2
    rw [datPs, List.any_cons, Bool.or_eq_true, eqv_pl y x h.1 hx, ih, List.mem_cons]
    constructor
    · rintro (rfl | z)
      · exact .inl rfl
      · exact .inr z
    · rintro (rfl | z)
      · exact .inl rfl
      · exact .inr z
theorem in_pl {neg : Bool} {h : EH} {n : Nat} {x : EV} {xs : List EV} {b : Bool} (e : lstAt h n = some xs) (hx : Pl x = true) (hs : Pls xs = true) (d1 : dep x ≤ 40) (d2 : deps xs ≤ 40) (hb : b = true ↔ x ∈ xs) : fInL neg x (.ref n) h = .ok (.bl (neg ^^ b)) h := by
  have e1 : ((datPs xs).any fun z => PyData.eqv z (datP x)) = b := by
    rw [Bool.eq_iff_iff, mem_datPs hx hs, hb]
  simp only [fInL, dat_pl hx, datF_pl e hs 3, shaped_pl hx d1, shaped_pls hs d2, Bool.and_self, if_true]
  rw [← e1]
theorem eq_pls {neg : Bool} {h : EH} {m n : Nat} {xs ys : List EV} {b : Bool} (e1 : lstAt h m = some xs) (e2 : lstAt h n = some ys) (h1 : Pls xs = true) (h2 : Pls ys = true) (d1 : deps xs ≤ 40) (d2 : deps ys ≤ 40) (hb : b = true ↔ xs = ys) : fEqD neg (.ref m) (.ref n) h = .ok (.bl (neg ^^ b)) h := by
  have e3 : PyData.eqv (.list (datPs xs)) (.list (datPs ys)) = b := by
    rw [Bool.eq_iff_iff, hb, ← eqvs_pl xs ys h1 h2]
    simp [PyData.eqv]
  simp only [fEqD, dat_lstP e1 h1, dat_lstP e2 h2, shaped_pls h1 d1, shaped_pls h2 d2, Bool.and_self, if_true, e3]
theorem eq_pl {neg : Bool} {h : EH} {x y : EV} {b : Bool} (h1 : Pl x = true) (h2 : Pl y = true) (d1 : dep x ≤ 40) (d2 : dep y ≤ 40) (hb : b = true ↔ x = y) : fEqD neg x y h = .ok (.bl (neg ^^ b)) h := by
  have e3 : PyData.eqv (datP x) (datP y) = b := by
    rw [Bool.eq_iff_iff, hb, ← eqv_pl x y h1 h2]
  simp only [fEqD, dat_pl h1, dat_pl h2, shaped_pl h1 d1, shaped_pl h2 d2, Bool.and_self, if_true, e3]
theorem pls_pairs : ∀ l : List (Int × Int), Pls (l.map pairE) = true
  | [] => by simp [Pls]
  | p :: l => by
    have := pls_pairs l
    simp [Pls, Pl, this, pairE]
theorem deps_pairs : ∀ l : List (Int × Int), deps (l.map pairE) ≤ 1
  | [] => by simp [deps]
  | p :: l => by
    have := deps_pairs l
    simp only [List.map_cons, deps, dep, pairE]
    omega
theorem pairE_inj {p q : Int × Int} (h : pairE p = pairE q) : p = q := by
  simp only [pairE, EV.tup.injEq, List.cons.injEq, EV.int.injEq, and_true] at h
  exact Prod.ext h.1 h.2
theorem map_pairE_inj {l m : List (Int × Int)} (h : l.map pairE = m.map pairE) : l = m := by
  induction l generalizing m with
  | nil => cases m with
    | nil => rfl
    | cons => simp at h
  | cons x l ih => cases m with
    | nil => simp at h
    | cons y m =>
      simp only [List.map_cons, List.cons.injEq] at h
      rw [pairE_inj h.1, ih h.2]
theorem mem_map_pairE {m : Int × Int} {l : List (Int × Int)} : pairE m ∈ l.map pairE ↔ m ∈ l := by
  rw [List.mem_map]
  constructor
  · rintro ⟨a, ha, e⟩
    exact pairE_inj e ▸ ha
  · intro h
    exact ⟨m, h, rfl⟩
section
variable {h : EH} {m n : Nat} {l k : List (Int × Int)} {p : Int × Int}
theorem f_inM (e : lstAt h n = some (l.map pairE)) (p : Int × Int) : fIn (pairE p) (.ref n) h = .ok (.bl (decide (p ∈ l))) h := by
  have := in_pl (neg := false) (x := pairE p) (b := decide (p ∈ l)) e (by simp [Pl, Pls, pairE]) (pls_pairs l) (by simp [dep, deps, pairE]) (by have := deps_pairs l; omega) (by rw [decide_eq_true_eq, mem_map_pairE])
  simpa using this
theorem f_notInM (e : lstAt h n = some (l.map pairE)) (p : Int × Int) : fNotIn (pairE p) (.ref n) h = .ok (.bl (decide (p ∉ l))) h := by
  have := in_pl (neg := true) (x := pairE p) (b := decide (p ∈ l)) e (by simp [Pl, Pls, pairE]) (pls_pairs l) (by simp [dep, deps, pairE]) (by have := deps_pairs l; omega) (by rw [decide_eq_true_eq, mem_map_pairE])
  simpa using this
theorem f_neL (e1 : lstAt h m = some (l.map pairE)) (e2 : lstAt h n = some (k.map pairE)) : fNe (.ref m) (.ref n) h = .ok (.bl (decide (l ≠ k))) h := by
  show (Res.no).orElse _ = _
  have := eq_pls (neg := true) (b := decide (l = k)) e1 e2 (pls_pairs l) (pls_pairs k) (by have := deps_pairs l; omega) (by have := deps_pairs k; omega) (by rw [decide_eq_true_eq]; exact ⟨fun e => by rw [e], map_pairE_inj⟩)
  simp only [orE_no, this]
  simp
theorem f_eqL (e1 : lstAt h m = some (l.map pairE)) (e2 : lstAt h n = some (k.map pairE)) : fEq (.ref m) (.ref n) h = .ok (.bl (decide (l = k))) h := by
  show (Res.no).orElse _ = _
  have := eq_pls (neg := false) (b := decide (l = k)) e1 e2 (pls_pairs l) (pls_pairs k) (by have := deps_pairs l; omega) (by have := deps_pairs k; omega) (by rw [decide_eq_true_eq]; exact ⟨fun e => by rw [e], map_pairE_inj⟩)
  simp only [orE_no, this]
  simp
theorem f_nePair (p q : Int × Int) : fNe (pairE p) (pairE q) h = .ok (.bl (decide (p ≠ q))) h := by
  show (Res.no).orElse _ = _
  have := eq_pl (neg := true) (h := h) (x := pairE p) (y := pairE q) (b := decide (p = q)) (by simp [Pl, Pls, pairE]) (by simp [Pl, Pls, pairE]) (by simp [dep, deps, pairE]) (by simp [dep, deps, pairE]) (by rw [decide_eq_true_eq]; exact ⟨fun e => by rw [e], pairE_inj⟩)
  simp only [orE_no, this]
  simp
end
end EE
set_option Elab.async false
set_option linter.all false
set_option maxRecDepth 100000
set_option maxHeartbeats 1000000
namespace EE
open PySem L2
def TrX {α : Type} (r : Res α) (Q : α → EH → Prop) (E : Exn → EH → Prop) : Prop := match r with
  | .ok v h => Q v h
  | .er x h => E x h
  | .no => False
section
variable {α β : Type}
@[simp] theorem trx_ok (v : α) (h : EH) (Q : α → EH → Prop) (E : Exn → EH → Prop) : TrX (.ok v h) Q E ↔ Q v h := Iff.rfl
@[simp] theorem trx_er (x : Exn) (h : EH) (Q : α → EH → Prop) (E : Exn → EH → Prop) : TrX (.er x h) Q E ↔ E x h := Iff.rfl
@[simp] theorem trx_no (Q : α → EH → Prop) (E : Exn → EH → Prop) : TrX .no Q E ↔ False := Iff.rfl
theorem trx_bind (r : Res α) (k : α → EH → Res β) (Q : β → EH → Prop) (E : Exn → EH → Prop) : TrX (r.bind k) Q E ↔ TrX r (fun v h => TrX (k v h) Q E) E := by cases r <;> rfl
@[simp] theorem trx_noer (r : Res α) (Q : α → EH → Prop) (E : Exn → EH → Prop) : TrX r.noer Q E ↔ Tri r Q := by cases r <;> rfl
theorem TrX.mono {r : Res α} {Q Q' : α → EH → Prop} {E E' : Exn → EH → Prop} (h : TrX r Q E) (hq : ∀ v h, Q v h → Q' v h) (he : ∀ x h, E x h → E' x h) : TrX r Q' E' := by
  cases r with
  | ok v h' => exact hq v h' h
  | er x h' => exact he x h' h
  | no => exact h
theorem Tri.x {r : Res α} {Q : α → EH → Prop} {E : Exn → EH → Prop} (h : Tri r Q) : TrX r Q E := by
  cases r with
  | ok v h' => exact h
  | er x h' => exact h.elim
  | no => exact h
theorem TrX.tri {r : Res α} {Q : α → EH → Prop} {E : Exn → EH → Prop} (h : TrX r Q E) (he : ∀ x h, ¬ E x h) : Tri r Q := by
  cases r with
  | ok v h' => exact h
  | er x h' => exact he _ _ h
  | no => exact h
theorem trx_word {rs : Nat → List EV → EH → Option (EV × EH)} {d : DE} {es : ES} {h : EH} {Q : EV → EH → Prop} {E : Exn → EH → Prop} (hd : TrX (d es h) Q E) (he : ∀ x h1, E x h1 → ∃ v h2, rs x.c x.fs h1 = some (v, h2) ∧ Q v h2) : Tri (dWord rs d es h) Q := by
  unfold dWord
  cases q : d es h with
  | ok v h' => rw [q] at hd; exact hd
  | no => rw [q] at hd; exact hd
  | er x h' =>
    rw [q] at hd
    obtain ⟨v, h2, e, hq⟩ := he x h' hd
    simp only [e]
    exact hq
theorem trx_for {it : Wlk} {g : DG} {b : DS} {xs : List EV} {es : ES} {h : EH} {Q : Flw → EH → Prop} {E : Exn → EH → Prop} (I : Nat → ES → EH → Prop) (h0 : I 0 es h) (hcur : ∀ i es h, I i es h → it.cur h = some xs)
    (hstep : ∀ (i : Nat) (x : EV) es h (K : Flw → EH → Prop), xs[i]? = some x → I i es h → (∀ es2 h2, I (i + 1) es2 h2 → K (.nx es2) h2) → (∀ es2 h2, I (i + 1) es2 h2 → K (.ct es2) h2) → (∀ es2 h2, Q (.nx es2) h2 → K (.bk es2) h2) → (∀ v h2, Q (.rt v) h2 → K (.rt v) h2) →
      TrX (g (it.tl i x) es h) (fun es1 h1 => TrX (b es1 h1) K E) E)
    (hend : ∀ es h, I xs.length es h → Q (.nx es) h) : TrX (kFor g b es it h) Q E := by
  have key : ∀ (m i : Nat) es h, i + m = xs.length + 1 → i ≤ xs.length → I i es h → TrX (forGo it g b m i es h) Q E := by
    intro m
    induction m with
    | zero =>
      intro i es h hi hl hI
      exact absurd hi (by omega)
    | succ m ih =>
      intro i es h hi hl hI
      unfold forGo
      rw [hcur i es h hI]
      simp only
      cases hx : xs[i]? with
      | none =>
        have hge := List.getElem?_eq_none_iff.mp hx
        have : i = xs.length := by omega
        subst this
        exact hend es h hI
      | some x =>
        simp only
        have hlt := (List.getElem?_eq_some_iff.mp hx).1
        have hs := hstep i x es h (fun f h2 => match f with
          | .nx es2 => I (i + 1) es2 h2
          | .ct es2 => I (i + 1) es2 h2
          | .bk es2 => Q (.nx es2) h2
          | .rt v => Q (.rt v) h2) hx hI (fun _ _ q => q) (fun _ _ q => q) (fun _ _ q => q) (fun _ _ q => q)
        rw [trx_bind]
        refine hs.mono (fun es1 h1 hs1 => ?_) fun _ _ q => q
        rw [trx_bind]
        refine hs1.mono (fun f h2 hf => ?_) fun _ _ q => q
        cases f with
        | nx es2 => exact ih (i + 1) es2 h2 (by omega) (by omega) hf
        | ct es2 => exact ih (i + 1) es2 h2 (by omega) (by omega) hf
        | bk es2 => exact hf
        | rt v => exact hf
  unfold kFor
  rw [hcur 0 es h h0]
  exact key _ 0 es h (by omega) (by omega) h0
end
theorem raise28 (k : Nat) (hk : k < 400) (h : EH) : kRaiseN 28 "row " " is none" (.int (k : Int)) h = .er ⟨28, [.int (k : Int)]⟩ h := by
  have key : ∀ k < 400, ((((k : Nat) : Int).natAbs.log2 < 1920 ∧ ((Str.empty ++ ("row " : Str)) ++ toString ((k : Nat) : Int)).length + (" is none" : Str).length ≤ 100000)) := by decide +kernel
  unfold kRaiseN
  simp only
  rw [if_pos (key k hk)]
end EE
set_option Elab.async false
set_option linter.all false
set_option maxRecDepth 100000
set_option maxHeartbeats 4000000
namespace K14
open PySem L2 EE LW TL
theorem seq_step {a b : DS} {es : ES} {h : EH} {Q P : Flw → EH → Prop} (h1 : Tri (a es h) P) (h2 : ∀ f h', P f h' → Tri (kSeq b f h') Q) : Tri (dSeq a b es h) Q := by
  rw [ap_seq, tri_bind]
  exact h1.mono h2
def rowO (r : Str) : Option Step := match Txt.split r sp with
  | [] => none
  | w :: ps => if (decide (tab_COUNTS.lookup w = some (ps.length : Int)) && ps.all fun p => okL (tl p)) = true then some (w, ps.map fun p => valOf (tl p)) else none
def outR : Option Step → EV
  | none => .non
  | some st => stE st
def tabR : List (Str × Int) := [("write", 4), ("back", 3), ("day", 3), ("days", 2), ("tie", 3), ("untie", 3), ("send", 2), ("carry", 2), ("lose", 2), ("twice", 2), ("settle", 1)]
def tabX (l : List (Str × Int)) : List (EV × EV) := l.map fun p => (EV.str p.1, EV.int p.2)
theorem get_tabX (l : List (Str × Int)) (w : Str) : dgetE false (tabX l) (.str w) = some ((l.lookup w).map EV.int) := by
  show some (dval EE.keyOf (tabX l) (.inr w)) = _
  congr 1
  unfold dval tabX
  induction l with
  | nil => rfl
  | cons p l ih =>
    have kd : decide (EE.keyOf (.str p.1) = some (.inr w)) = decide (w = p.1) := by
      refine decide_eq_decide.mpr ?_
      show some (Sum.inr p.1 : Key) = some (.inr w) ↔ _
      simp only [Option.some.injEq, Sum.inr.injEq]
      exact eq_comm
    rw [List.map_cons, List.find?_cons, List.lookup_cons, kd]
    by_cases c : w = p.1
    · subst c
      simp
    · have c2 : (w == p.1) = false := beq_eq_false_iff_ne.mpr c
      rw [c2]
      simpa [c] using ih
theorem lookup_up (f : Int → Int) (w : Str) : ∀ l : List (Str × Int), (l.map fun p => (p.1, f p.2)).lookup w = (l.lookup w).map f
  | [] => rfl
  | p :: l => by
    rw [List.map_cons, List.lookup_cons, List.lookup_cons]
    cases c : w == p.1 with
    | true => rfl
    | false => exact lookup_up f w l
theorem tabR_up : tabR = tab_COUNTS.map fun p => (p.1, p.2 + 1) := by decide +kernel
theorem tabR_at (w : Str) : tabR.lookup w = (tab_COUNTS.lookup w).map (· + 1) := by rw [tabR_up, lookup_up (· + 1)]
def digS : Str := "0123456789"
theorem tl_digS : tl digS = [48, 49, 50, 51, 52, 53, 54, 55, 56, 57] := by decide +kernel
theorem mem_digS (c : Nat) : decide (c ∈ tl digS) = dig c := by
  rw [tl_digS, Bool.eq_iff_iff]
  simp [dig]
  omega
theorem sign_pl : ∀ c < 128, Pl (.str ⟨#[c]⟩) = true := by decide +kernel
def sg (c : Nat) : EV := .str ⟨#[c]⟩
theorem signs_pl : ∀ l : List Nat, Asc l → Pls (l.map sg) = true ∧ deps (l.map sg) ≤ 1
  | [], _ => ⟨rfl, by simp [deps]⟩
  | c :: l, h => by
    obtain ⟨a, b⟩ := signs_pl l fun d hd => h d (List.mem_cons_of_mem _ hd)
    have k := sign_pl c (h c List.mem_cons_self)
    refine ⟨by simp only [List.map_cons, Pls, sg, a, k]; rfl, ?_⟩
    simp only [List.map_cons, deps, sg, dep]
    omega
section
variable {h : EH} {x0 x1 x2 x3 x5 : Option EV} {p : Str} {L : Nat}
theorem odd_signs (T : Tz L p) (hl : L ≤ 40000) : ∃ h', dLc (dItS (dVar 4)) (dName 5) (dB (dOp fNotInX (dVar 5) (dC (.str digS)))) (dVar 5) [5] [x0, x1, x2, x3, some (.str p), x5] h = .ok (.ref h.length) h' ∧ h' = h ++ [.lst (((tl p).filter fun c => !dig c).map sg)] := by
  have key := lc_eq1 (it := ⟨none, signsE p, fun _ x => x⟩) (j := 5) (t := dB (dOp fNotInX (dVar 5) (dC (.str digS)))) (e := dVar 5) (es := [x0, x1, x2, x3, some (.str p), x5]) (h := h) (tl p) sg (fun c => !dig c) sg rfl (by have := T.2; omega) rfl (fun c _ => by
    have nx : fNotInX (sg c) (.str digS) h = .ok (.bl (!dig c)) h := by
      rw [← mem_digS]
      rfl
    simp [wip, nx]) (fun c _ _ => by simp [wip])
  refine ⟨_, ?_, rfl⟩
  have it : dItS (dVar 4) [x0, x1, x2, x3, some (.str p), x5] h = .ok ⟨none, signsE p, fun _ x => x⟩ h := by
    unfold dItS
    simp
  rw [ap_lc, it, bind_ok, key]
theorem filter_dig (l : List Nat) : ((l.filter fun c => !dig c).map sg = []) ↔ l.all dig = true := by
  rw [List.map_eq_nil_iff, List.filter_eq_nil_iff, List.all_eq_true]
  constructor
  · intro z c hc
    simpa using z c hc
  · intro z c hc
    simp [z c hc]
abbrev dT1 : DT := dOr (dNot (dB (dChain fLt fLt (dC (.int 0)) (dCB fLenS (dCons (dVar 4) dNil)) (dC (.int 6))))) (dB (dOp fNe (dLc (dItS (dVar 4)) (dName 5) (dB (dOp fNotInX (dVar 5) (dC (.str "0123456789")))) (dVar 5) [5]) (dLst dNil)))
theorem t1_ok (T : Tz L p) (hl : L ≤ 40000) : Tri (dT1 [x0, x1, x2, x3, some (.str p), x5] h) fun b h' => b = !(decide (0 < (tl p).length) && decide ((tl p).length < 6) && (tl p).all dig) ∧ Fr [] h h' := by
  have fl : ∀ h : EH, fLenS [.str p] h = .ok (.int ((tl p).length : Int)) h := fun h => by
    rw [← len_tl]
    exact f_lenS h p (by have := T.len; omega)
  have ch : dChain fLt fLt (dC (.int 0)) (dCB fLenS (dCons (dVar 4) dNil)) (dC (.int 6)) [x0, x1, x2, x3, some (.str p), x5] h = .ok (.bl (decide (0 < (tl p).length) && decide ((tl p).length < 6))) h := by
    generalize (tl p).length = n at *
    by_cases c : 0 < n
    · have c' : decide ((0 : Int) < (n : Int)) = true := decide_eq_true (by omega)
      have d' : decide ((n : Int) < 6) = decide (n < 6) := decide_eq_decide.mpr (by omega)
      simp [fl, c, d']
    · have c' : n = 0 := by omega
      subst c'
      simp [fl]
  simp only [ap_or, ap_not, ap_B, ch, bind_ok, ap_kB, ap_kNot, ap_kOr]
  cases cc : (decide (0 < (tl p).length) && decide ((tl p).length < 6)) with
  | false =>
    simp
    exact Fr.refl _ _
  | true =>
    simp only [Bool.not_true, Bool.false_eq_true, if_false, Bool.true_and]
    obtain ⟨h1, e1, eh⟩ := odd_signs (x0 := x0) (x1 := x1) (x2 := x2) (x3 := x3) (x5 := x5) (h := h) T hl
    have e1 : dLc (dItS (dVar 4)) (dName 5) (dB (dOp fNotInX (dVar 5) (dC (.str "0123456789")))) (dVar 5) [5] [x0, x1, x2, x3, some (.str p), x5] h = .ok (.ref h.length) h1 := e1
    have l1 : lstAt h1 h.length = some (((tl p).filter fun c => !dig c).map sg) := by rw [eh]; exact lstAt_new
    have f1 : Fr [] h h1 := by rw [eh]; exact Fr.app _ _ _
    have f2 : Fr [] h1 (h1 ++ [EO.lst []]) := Fr.app _ _ _
    have l2 := f2.lst l1 (by simp)
    have n2 : lstAt (h1 ++ [EO.lst []]) h1.length = some [] := lstAt_new
    have pp := signs_pl ((tl p).filter fun c => !dig c) fun c hc => T.1 c (List.mem_filter.mp hc).1
    have ne : fNe (.ref h.length) (.ref h1.length) (h1 ++ [EO.lst []]) = .ok (.bl (!(tl p).all dig)) (h1 ++ [EO.lst []]) := by
      show (Res.no).orElse _ = _
      rw [orE_no]
      have := eq_pls (neg := true) (b := (tl p).all dig) l2 n2 pp.1 rfl (by omega) (by simp [deps]) (by rw [← filter_dig])
      rw [this]
      simp
    rw [ap_op, e1]
    simp only [bind_ok, ap_kOp, ap_lst, ap_nil, ap_kLst, List.length_nil, show (0 ≤ 100000) = True by simp, if_true, ap_kOp2, ne, ap_kB, tri_ok, true_and]
    exact f1.trans f2
abbrev dT2 : DT := dAnd (dB (dOp fGt (dCB fLenS (dCons (dVar 4) dNil)) (dC (.int 1)))) (dB (dOp fEq (dOp fIxX (dVar 4) (dC (.int 0))) (dC (.str "0"))))
theorem t2_ok (T : Tz L p) (hl : L ≤ 40000) : dT2 [x0, x1, x2, x3, some (.str p), x5] h = .ok (decide (1 < (tl p).length) && decide ((tl p).head? = some 48)) h := by
  have fl : ∀ h : EH, fLenS [.str p] h = .ok (.int ((tl p).length : Int)) h := fun h => by
    rw [← len_tl]
    exact f_lenS h p (by have := T.len; omega)
  have pl : p.length ≤ 100000 := by have := T.len; omega
  by_cases c : 1 < (tl p).length
  · have c' : decide ((1 : Int) < ((tl p).length : Int)) = true := decide_eq_true (by omega)
    obtain ⟨a, r, q⟩ : ∃ a r, tl p = a :: r := by
      cases q : tl p with
      | nil => rw [q] at c; simp at c
      | cons a r => exact ⟨a, r, rfl⟩
    have at0 : atI p.cps.toList 0 = some a := by
      show atI (tl p) 0 = some a
      rw [q]
      unfold atI ixN
      simp
    have ix : fIxX (.str p) (.int 0) h = .ok (.str ⟨#[a]⟩) h := by
      unfold fIxX
      simp only [pl, if_true, at0]
    have eq : fEq (.str ⟨#[a]⟩) (.str "0") h = .ok (.bl (decide ((tl p).head? = some 48))) h := by
      have e0 : decide ((⟨#[a]⟩ : Str) = "0") = decide ((tl p).head? = some 48) := by
        rw [q, Bool.eq_iff_iff, decide_eq_true_eq, decide_eq_true_eq]
        have t0 : tl ("0" : Str) = [48] := by decide +kernel
        constructor
        · intro z
          have := congrArg tl z
          rw [t0] at this
          have : [a] = [48] := this
          rw [(List.cons.inj this).1]
          rfl
        · intro z
          have : a = 48 := by simpa using z
          rw [this]
          exact ext_tl (by rw [t0])
      rw [← e0]
      show Res.ok (EV.bl (false ^^ decide ((⟨#[a]⟩ : Str) = "0"))) h = _
      rw [Bool.false_xor]
    simp only [ap_and, ap_B, ap_op, ap_cb, ap_cons, ap_var, List.getElem?_cons_succ, List.getElem?_cons_zero, gV_some, bind_ok, ap_kCons, ap_nil, ap_kCons2, fl, ap_kOp, ap_c, ap_kOp2, f_gt, c, c', decide_true, ap_kB, ap_kAnd, if_true, ix, eq, Bool.true_and]
  · have c' : decide ((1 : Int) < ((tl p).length : Int)) = false := decide_eq_false (by omega)
    simp only [ap_and, ap_B, ap_op, ap_cb, ap_cons, ap_var, List.getElem?_cons_succ, List.getElem?_cons_zero, gV_some, bind_ok, ap_kCons, ap_nil, ap_kCons2, fl, ap_kOp, ap_c, ap_kOp2, f_gt, c, c', decide_false, ap_kB, ap_kAnd, Bool.false_eq_true, if_false, Bool.false_and]
theorem f_ne0 (i : Int) (h : EH) : fNe .non (.int i) h = .ok (.bl true) h := by
  show (Res.no).orElse _ = _
  rw [orE_no]
  exact eq_pl (neg := true) (b := false) (by simp [Pl]) (by simp [Pl]) (by simp [dep]) (by simp [dep]) (by simp)
theorem okL_eq (l : List Nat) : okL l = ((decide (0 < l.length) && decide (l.length < 6) && l.all dig) && !(decide (1 < l.length) && decide (l.head? = some 48))) := rfl
theorem words_ok {d ws : Nat} {w : Str} {ps : List Str} {r : Str} (T : ∀ p ∈ ps, Tz L p) (hl : L ≤ 40000) (hn : ps.length ≤ 40000) {m : Nat} (hm : lstAt h m = some (ps.map EV.str)) {f4 f5 : Option EV} :
    Tri (kFor (dName 4) (dSeq (dIfS dT1 (dRet (dC .non)) dNext)
      (dSeq (dIfS dT2 (dRet (dC .non)) dNext)
      (dAsg (dOp fCatT (dVar 3) (dTup (dCons (dCB fIntS (dCons (dVar 4) dNil)) dNil))) (dName 3)))) [some (.str r), some (.ref d), some (.ref ws), some (.tup [.str w]), f4, f5] ⟨some m, [], fun _ x => x⟩ h)
      fun f h' => Fr [] h h' ∧ (((ps.all fun p => okL (tl p)) = false ∧ f = .rt .non) ∨ ((ps.all fun p => okL (tl p)) = true ∧ ∃ f4 f5, f = .nx [some (.str r), some (.ref d), some (.ref ws), some (stE (w, ps.map fun p => valOf (tl p))), f4, f5])) := by
  refine tri_for (xs := ps.map EV.str) (fun i es h' => Fr [] h h' ∧ ((ps.take i).all fun p => okL (tl p)) = true ∧ ∃ f4 f5, es = [some (.str r), some (.ref d), some (.ref ws), some (stE (w, (ps.take i).map fun p => valOf (tl p))), f4, f5]) ⟨Fr.refl _ _, rfl, _, _, rfl⟩ (fun i es h' z => z.1.lst hm (by simp)) ?_ ?_
  · rintro i x es h1 K hx ⟨f1, ha, g4, g5, rfl⟩ hK _ _ hR
    rw [List.getElem?_map] at hx
    obtain ⟨p, hp, rfl⟩ := Option.map_eq_some_iff.mp hx
    have hi := (List.getElem?_eq_some_iff.mp hp).1
    have Tp := T p (List.mem_of_getElem? hp)
    have bad : okL (tl p) = false → (ps.all fun p => okL (tl p)) = false := fun z => by
      rw [Bool.eq_false_iff]
      intro q
      rw [List.all_eq_true] at q
      rw [q p (List.mem_of_getElem? hp)] at z
      cases z
    simp only [ap_name, tri_ok, List.set_cons_zero, List.set_cons_succ]
    rw [ap_seq, tri_bind, ap_ifS, tri_bind]
    refine (t1_ok Tp hl).mono ?_
    rintro b h2 ⟨rfl, f2⟩
    cases c1 : (decide (0 < (tl p).length) && decide ((tl p).length < 6) && (tl p).all dig) with
    | false =>
      have eo : okL (tl p) = false := by rw [okL_eq, c1]; rfl
      simp only [ap_kIfS, Bool.not_false, if_true, ap_ret, ap_c, bind_ok, ap_kRet, tri_ok, kSeq_rt]
      exact hR _ _ ⟨f1.trans f2, .inl ⟨bad eo, rfl⟩⟩
    | true =>
      simp only [ap_kIfS, Bool.not_true, Bool.false_eq_true, if_false, ap_next, tri_ok, kSeq_nx]
      have t2 := t2_ok (x0 := some (.str r)) (x1 := some (.ref d)) (x2 := some (.ref ws)) (x3 := some (stE (w, (ps.take i).map fun p => valOf (tl p)))) (x5 := g5) (h := h2) Tp hl
      rw [ap_seq, ap_ifS, t2]
      simp only [bind_ok, ap_kIfS]
      cases c2 : (decide (1 < (tl p).length) && decide ((tl p).head? = some 48)) with
      | true =>
        have eo : okL (tl p) = false := by rw [okL_eq, c1, c2]; rfl
        simp only [if_true, ap_ret, ap_c, bind_ok, ap_kRet, tri_ok, kSeq_rt]
        exact hR _ _ ⟨f1.trans f2, .inl ⟨bad eo, rfl⟩⟩
      | false =>
        have eo : okL (tl p) = true := by rw [okL_eq, c1, c2]; rfl
        obtain ⟨ep, ev⟩ := okS eo
        have fi : fIntS [.str p] h2 = .ok (.int (valOf (tl p) : Nat)) h2 := by
          have hit : PySem.intText? p = some ((valOf (tl p) : Nat) : Int) := by
            conv => lhs; rw [ep]
            exact num_int ev
          exact f_intS h2 hit (by
            have := num_slen ev
            rw [← ep] at this
            omega)
        have ct : fCatT (stE (w, (ps.take i).map fun p => valOf (tl p))) (.tup [.int ((valOf (tl p) : Nat) : Int)]) h2 = .ok (stE (w, (ps.take (i + 1)).map fun p => valOf (tl p))) h2 := by
          have e1 : ps.take (i + 1) = ps.take i ++ [p] := by rw [List.take_succ, hp]; rfl
          show (if _ then Res.ok (EV.tup _) h2 else .no) = _
          rw [if_pos (by simp; omega), e1]
          simp [stE]
        simp only [Bool.false_eq_true, if_false, ap_next, bind_ok, kSeq_nx, ap_asg, ap_op, ap_var, List.getElem?_cons_succ, List.getElem?_cons_zero, gV_some, ap_kOp, ap_tup, ap_cons, ap_cb, fi, ap_kCons, ap_nil, ap_kCons2, ap_kTup, List.length_cons, List.length_nil, Nat.zero_add, Nat.reduceLeDiff, if_true, ap_kOp2, ct, ap_kAsg, ap_name, ap_kAsg2, tri_ok, List.set_cons_zero, List.set_cons_succ]
        refine hK _ _ ⟨f1.trans f2, ?_, _, _, rfl⟩
        rw [List.take_succ, hp, List.all_append, ha]
        simp [eo]
  · rintro es h1 ⟨f1, ha, g4, g5, rfl⟩
    rw [List.length_map, List.take_length] at *
    exact ⟨f1, .inr ⟨ha, _, _, rfl⟩⟩
end
end K14
set_option Elab.async false
set_option linter.all false
set_option maxRecDepth 100000
set_option maxHeartbeats 4000000
namespace K14
open PySem L2 EE LW TL
section
variable {h : EH} {r : Str} {L : Nat}
def tabRa : List (Str × Int) := [("write", 4), ("back", 3), ("day", 3), ("days", 2), ("tie", 3), ("untie", 3), ("send", 2), ("carry", 2), ("lose", 2)]
def tabRb : List (Str × Int) := [("twice", 2), ("settle", 1)]
theorem ix0 {m : Nat} {x : EV} {xs : List EV} (e : lstAt h m = some (x :: xs)) : fIx (.ref m) (.int 0) h = .ok x h := f_ixL _ e 0 rfl rfl
theorem tail1 {m : Nat} {x : EV} {xs : List EV} (e : lstAt h m = some (x :: xs)) : fSl (.ref m) (some 1) none h = .ok (.ref h.length) (h ++ [.lst xs]) := by
  have := f_slice e (some 1) none
  rw [this, show cutE (x :: xs) (some 1) none = xs from cut_drop (x :: xs) 1]
theorem row_ok (T : Tz L r) (hl : L ≤ 39990) : Tri (m__law_row [.str r] h) fun v h' => v = outR (rowO r) ∧ Fr [] h h' := by
  rw [u__law_row, tri_bind]
  unfold b__law_row
  have a1 : (h ++ [EO.dic false (tabX tabRa)])[h.length]? = some (.dic false (tabX tabRa)) := at_end
  have f1 : Fr [] h (h ++ [EO.dic false (tabX tabRa)]) := Fr.app _ _ _
  have l1 : (h ++ [EO.dic false (tabX tabRa)]).length = h.length + 1 := by simp
  have E1 : dAsg (dDisp [((dC (.str "write")), (dC (.int 4))), ((dC (.str "back")), (dC (.int 3))), ((dC (.str "day")), (dC (.int 3))), ((dC (.str "days")), (dC (.int 2))), ((dC (.str "tie")), (dC (.int 3))), ((dC (.str "untie")), (dC (.int 3))), ((dC (.str "send")), (dC (.int 2))), ((dC (.str "carry")), (dC (.int 2))), ((dC (.str "lose")), (dC (.int 2)))]) (dName 1) [some (.str r), none, none, none, none, none] h = .ok (.nx [some (.str r), some (.ref h.length), none, none, none, none]) (h ++ [EO.dic false (tabX tabRa)]) := by
    have dk : dfoldK [] [(.str "write", .int 4), (.str "back", .int 3), (.str "day", .int 3), (.str "days", .int 2), (.str "tie", .int 3), (.str "untie", .int 3), (.str "send", .int 2), (.str "carry", .int 2), (.str "lose", .int 2)] = some (tabX tabRa) := rfl
    simp [-List.append_assoc, -List.length_append, dDisp, dPairs, dk]
  generalize h ++ [EO.dic false (tabX tabRa)] = h1 at *
  have a2 : (h1 ++ [EO.dic false (tabX tabRb)])[h1.length]? = some (.dic false (tabX tabRb)) := at_end
  have f2 : Fr [] h1 (h1 ++ [EO.dic false (tabX tabRb)]) := Fr.app _ _ _
  have up := updK (n := h.length) (m := h1.length) (by omega) (f2.at a1 (by simp)) a2 (by decide) (out := tabX tabR) rfl
  have kb : ∀ a es, kBMD mUpdK a es (.ref h.length) h1 = _ := fun a es => kBMD_ref a1
  have a3 : ((h1 ++ [EO.dic false (tabX tabRb)]).set h.length (.dic false (tabX tabR)))[h.length]? = some (.dic false (tabX tabR)) := List.getElem?_set_self (by simp; omega)
  have f3 : Fr [] h ((h1 ++ [EO.dic false (tabX tabRb)]).set h.length (.dic false (tabX tabR))) := (f1.trans f2).set (.inr (Nat.le_refl _))
  have E2 : dDrop (dBMD mUpdK (dVar 1) (dCons (dDisp [((dC (.str "twice")), (dC (.int 2))), ((dC (.str "settle")), (dC (.int 1)))]) dNil)) [some (.str r), some (.ref h.length), none, none, none, none] h1 = .ok (.nx [some (.str r), some (.ref h.length), none, none, none, none]) ((h1 ++ [EO.dic false (tabX tabRb)]).set h.length (.dic false (tabX tabR))) := by
    have dk : dfoldK [] [(.str "twice", .int 2), (.str "settle", .int 1)] = some (tabX tabRb) := rfl
    simp [-List.append_assoc, -List.length_append, kb, dDisp, dPairs, dk, up]
  generalize ((h1 ++ [EO.dic false (tabX tabRb)]).set h.length (.dic false (tabX tabR))) = h3 at *
  rw [ap_seq, E1, bind_ok, kSeq_nx, ap_seq, E2, bind_ok, kSeq_nx]
  -- words
  have hsp : Sep sp := .inl rfl
  obtain ⟨s1, s2, s3, s4⟩ := split_tx hsp T
  have ms := m_splitT (h := h3) hsp T (by omega)
  unfold rowO
  cases q : Txt.split r sp with
  | nil => exact absurd q s3
  | cons w ps =>
    rw [q] at ms s1 s4
    simp only [List.length_cons] at s4
    have n4 : lstAt (h3 ++ [EO.lst ((w :: ps).map EV.str)]) h3.length = some (.str w :: ps.map EV.str) := lstAt_new
    have g4 : Fr [] h3 (h3 ++ [EO.lst ((w :: ps).map EV.str)]) := Fr.app _ _ _
    have a4 := g4.at a3 (by simp)
    have f4 := f3.trans g4
    have E3 : dAsg (dSM1 mSplit (dVar 0) (dC (.str " "))) (dName 2) [some (.str r), some (.ref h.length), none, none, none, none] h3 = .ok (.nx [some (.str r), some (.ref h.length), some (.ref h3.length), none, none, none]) (h3 ++ [EO.lst ((w :: ps).map EV.str)]) := by
      have ms' : mSplit (.str r) [.str " "] h3 = _ := ms
      simp [-List.append_assoc, -List.length_append, ms']
    rw [ap_seq, E3, bind_ok, kSeq_nx]
    generalize h3 ++ [EO.lst ((w :: ps).map EV.str)] = h4 at *
    have i4 := ix0 n4
    have ln := f_len n4
    simp only [List.length_cons, List.length_map] at ln
    have gt : mGet1 (.ref h.length) [.str w] h4 = .ok (((tabR.lookup w).map EV.int).getD .non) h4 := by
      have d : dicAt h4 h.length = some (false, tabX tabR) := by simp only [dicAt, a4]
      simp only [mGet1, d, get_tabX]
    have kg : ∀ a es, kBMD mGet1 a es (.ref h.length) h4 = _ := fun a es => kBMD_ref a4
    have tst : (dB (dOp fNe (dBMD mGet1 (dVar 1) (dCons (dOp fIx (dVar 2) (dC (.int 0))) dNil)) (dCB fLen (dCons (dVar 2) dNil)))) [some (.str r), some (.ref h.length), some (.ref h3.length), none, none, none] h4 = .ok (!decide (tab_COUNTS.lookup w = some (ps.length : Int))) h4 := by
      have ne : fNe (((tabR.lookup w).map EV.int).getD .non) (.int ((ps.length + 1 : Nat) : Int)) h4 = .ok (.bl (!decide (tab_COUNTS.lookup w = some (ps.length : Int)))) h4 := by
        rw [tabR_at]
        cases c : tab_COUNTS.lookup w with
        | none =>
          show fNe .non _ h4 = _
          rw [f_ne0]
          simp
        | some i =>
          show fNe (.int (i + 1)) (.int ((ps.length + 1 : Nat) : Int)) h4 = _
          have e : decide (i + 1 = ((ps.length + 1 : Nat) : Int)) = decide (some i = some (ps.length : Int)) := by
            refine decide_eq_decide.mpr ?_
            simp only [Option.some.injEq]
            omega
          show Res.ok (EV.bl (true ^^ decide (i + 1 = ((ps.length + 1 : Nat) : Int)))) h4 = _
          rw [e, Bool.true_xor]
      simp only [ap_B, ap_op, ap_bmD, ap_var, List.getElem?_cons_succ, List.getElem?_cons_zero, gV_some, bind_ok, kg, ap_cons, ap_kOp, ap_c, ap_kOp2, i4, ap_kCons, ap_nil, ap_kCons2, ap_kBM2, gt, ap_cb, ln, ne, ap_kB]
    rw [ap_seq, ap_ifS, tst]
    simp only [bind_ok, ap_kIfS]
    by_cases c : tab_COUNTS.lookup w = some (ps.length : Int)
    · rw [decide_eq_true c]
      simp only [Bool.not_true, Bool.false_eq_true, if_false, ap_next, bind_ok, kSeq_nx, Bool.true_and]
      have E4 : dAsg (dTup (dCons (dOp fIx (dVar 2) (dC (.int 0))) dNil)) (dName 3) [some (.str r), some (.ref h.length), some (.ref h3.length), none, none, none] h4 = .ok (.nx [some (.str r), some (.ref h.length), some (.ref h3.length), some (.tup [.str w]), none, none]) h4 := by
        simp [i4]
      have t1 := tail1 n4
      have n5 : lstAt (h4 ++ [EO.lst (ps.map EV.str)]) h4.length = some (ps.map EV.str) := lstAt_new
      have g5 : Fr [] h4 (h4 ++ [EO.lst (ps.map EV.str)]) := Fr.app _ _ _
      have f5 := f4.trans g5
      rw [ap_seq, E4, bind_ok, kSeq_nx, ap_seq]
      generalize h4 ++ [EO.lst (ps.map EV.str)] = h5 at *
      generalize h4.length = m at *
      simp only [ap_for, ap_itL, ap_sl, ap_var, List.getElem?_cons_succ, List.getElem?_cons_zero, gV_some, bind_ok, ap_kSl, ap_part, ap_c, ap_kPart, ap_kSl2, ap_part0, ap_kSl3, t1, kItL_ref n5, tri_bind]
      refine (words_ok (h := h5) (d := h.length) (ws := h3.length) (w := w) (r := r) (f4 := none) (f5 := none) (fun p hp => s1 p (List.mem_cons_of_mem _ hp)) (by omega) (by omega) n5).mono ?_
      rintro f h6 ⟨f6, ⟨ha, rfl⟩ | ⟨ha, g4', g5', rfl⟩⟩
      · rw [ha]
        simp only [kSeq_rt, tri_ok, kDef_rt, Bool.false_eq_true, if_false]
        exact ⟨rfl, f5.trans f6⟩
      · rw [ha]
        simp only [kSeq_nx, ap_ret, ap_var, List.getElem?_cons_succ, List.getElem?_cons_zero, gV_some, bind_ok, ap_kRet, tri_ok, kDef_rt, if_true]
        exact ⟨rfl, f5.trans f6⟩
    · rw [decide_eq_false c]
      simp only [Bool.not_false, if_true, ap_ret, ap_c, bind_ok, ap_kRet, kSeq_rt, tri_ok, kDef_rt, Bool.false_and, Bool.false_eq_true, if_false]
      exact ⟨rfl, f4⟩
end
end K14
set_option Elab.async false
set_option linter.all false
set_option maxRecDepth 100000
set_option maxHeartbeats 4000000
namespace K14
open PySem L2 EE LW TL
theorem trx_of {α : Type} {r : Res α} {Q : α → EH → Prop} {E : Exn → EH → Prop} (h : Tri r Q) : TrX r Q E := by
  obtain ⟨v, h', e, q⟩ := h.ex
  rw [e]
  exact q
theorem raise29 (k : Nat) (hk : k < 100000) (h : EH) : kRaiseN 29 "row " " of the text can't be read" (.int (k : Int)) h = .er ⟨29, [.int (k : Int)]⟩ h := by
  have e1 : ((Str.empty ++ ("row " : Str)) ++ toString ((k : Nat) : Int)).length ≤ 100 := by
    rw [len_tl, tl_append, List.length_append]
    have a : (tl (Str.empty ++ ("row " : Str))).length = 4 := by decide +kernel
    have b : (tl (toString ((k : Nat) : Int) : Str)).length ≤ 5 := by
      show (tl (numS k)).length ≤ 5
      rw [tl_numS]
      exact num_len hk
    omega
  have e2 : (" of the text can't be read" : Str).length ≤ 100 := by decide +kernel
  have e3 : ((k : Nat) : Int).natAbs.log2 < 1920 := by
    rw [Int.natAbs_natCast]
    by_cases z : k = 0
    · subst z; decide
    · exact (Nat.log2_lt z).mpr (Nat.lt_of_lt_of_le hk (Nat.le_trans (show 100000 ≤ 2 ^ 17 by decide) (Nat.pow_le_pow_right (by decide) (by decide))))
  unfold kRaiseN
  simp only
  rw [if_pos ⟨e3, by omega⟩]
section
variable {h : EH} {r : Str} {L : Nat}
theorem step_ok (T : Tz L r) (hl : L ≤ 39990) {i : Nat} (hi : i < 100000) : TrX (m__step [.int (i : Int), .str r] h) (fun v h' => (∃ st, rowO r = some st ∧ v = stE st) ∧ Fr [] h h') (fun y h' => rowO r = none ∧ y = ⟨29, [.int (i : Int)]⟩ ∧ Fr [] h h') := by
  rw [u__step, trx_bind]
  unfold b__step
  have hsp : Sep sp := .inl rfl
  obtain ⟨s1, s2, s3, s4⟩ := split_tx hsp T
  have ms := m_splitT (h := h) hsp T (by omega)
  unfold rowO
  cases q : Txt.split r sp with
  | nil => exact absurd q s3
  | cons w ps =>
    rw [q] at ms s1 s4
    simp only [List.length_cons] at s4
    have n1 : lstAt (h ++ [EO.lst ((w :: ps).map EV.str)]) h.length = some ((w :: ps).map EV.str) := lstAt_new
    have f1 : Fr [] h (h ++ [EO.lst ((w :: ps).map EV.str)]) := Fr.app _ _ _
    generalize h ++ [EO.lst ((w :: ps).map EV.str)] = h1 at *
    have gs := fun es r => ap_gstarL (i0 := 1) (es := es) r n1 (by simp)
    have n2 : lstAt (h1 ++ [EO.lst (ps.map EV.str)]) h1.length = some (ps.map EV.str) := lstAt_new
    have f2 : Fr [] h1 (h1 ++ [EO.lst (ps.map EV.str)]) := Fr.app _ _ _
    have ed : List.drop 1 ((w :: ps).map EV.str) = ps.map EV.str := rfl
    have et : List.take 1 ((w :: ps).map EV.str) = [EV.str w] := rfl
    rw [ed, et] at gs
    have E1 : dAsg (dSM1 mSplit (dVar 1) (dC (.str " "))) (dGStarL 1 (dGCons (dName 2) (dGCons (dName 3) dGNil))) [some (.int (i : Int)), some (.str r), none, none, none, none] h = .ok (.nx [some (.int (i : Int)), some (.str r), some (.str w), some (.ref h1.length), none, none]) (h1 ++ [EO.lst (ps.map EV.str)]) := by
      have ms' : mSplit (.str r) [.str " "] h = _ := ms
      simp [-List.append_assoc, -List.length_append, ms', gs]
    rw [ap_seq, E1, bind_ok, kSeq_nx]
    generalize h1 ++ [EO.lst (ps.map EV.str)] = h2 at *
    generalize h1.length = m at *
    have F2 := f1.trans f2
    have ln := f_len n2
    rw [List.length_map] at ln
    have tst : (dB (dOp fNe (dKGet tab_COUNTS (dVar 2)) (dCB fLen (dCons (dVar 3) dNil)))) [some (.int (i : Int)), some (.str r), some (.str w), some (.ref m), none, none] h2 = .ok (!decide (tab_COUNTS.lookup w = some (ps.length : Int))) h2 := by
      cases c : tab_COUNTS.lookup w with
      | none =>
        have kg := kKGet_none (h := h2) c
        have ne := f_ne0 (ps.length : Int) h2
        simp [kg, ln, ne]
      | some k =>
        have kg := kKGet_some h2 c
        simp [kg, ln]
    rw [ap_seq, ap_ifS, tst]
    simp only [bind_ok, ap_kIfS]
    by_cases c : tab_COUNTS.lookup w = some (ps.length : Int)
    · rw [decide_eq_true c]
      simp only [Bool.not_true, Bool.false_eq_true, if_false, ap_next, bind_ok, kSeq_nx, Bool.true_and]
      rw [ap_seq, trx_bind]
      refine (show TrX _ (fun f h' => h' = h2 ∧ (ps.all fun p => okL (tl p)) = true ∧ ∃ g4, f = .nx [some (.int (i : Int)), some (.str r), some (.str w), some (.ref m), g4, none]) (fun y h' => (ps.all fun p => okL (tl p)) = false ∧ y = ⟨29, [.int (i : Int)]⟩ ∧ h' = h2) from ?_).mono ?_ ?_
      · simp only [ap_for, ap_itL, ap_var, List.getElem?_cons_succ, List.getElem?_cons_zero, gV_some, bind_ok, kItL_ref n2]
        refine trx_for (xs := ps.map EV.str) (fun j es h' => h' = h2 ∧ ((ps.take j).all fun p => okL (tl p)) = true ∧ ∃ g4, es = [some (.int (i : Int)), some (.str r), some (.str w), some (.ref m), g4, none]) ⟨rfl, rfl, _, rfl⟩ (fun j es h' z => by rw [z.1]; exact n2) ?_ ?_
        · rintro j x es h' K hx ⟨rfl, ha, g4, rfl⟩ hK _ _ _
          rw [List.getElem?_map] at hx
          obtain ⟨p, hp, rfl⟩ := Option.map_eq_some_iff.mp hx
          have Tp := s1 p (List.mem_cons_of_mem _ (List.mem_of_getElem? hp))
          have isn := is_number_g h' p (by have := Tp.len; omega)
          simp only [ap_name, trx_ok, List.set_cons_zero, List.set_cons_succ]
          cases co : okL (tl p) with
          | false =>
            rw [co] at isn
            have tf : (dNot (dB (dCall m__is_number (dCons (dVar 4) dNil)))) [some (.int (i : Int)), some (.str r), some (.str w), some (.ref m), some (.str p), none] h' = .ok true h' := by simp [isn]
            have rs := raise29 i hi h'
            have bad : (ps.all fun p => okL (tl p)) = false := by
              rw [Bool.eq_false_iff]
              intro z
              rw [List.all_eq_true] at z
              rw [z p (List.mem_of_getElem? hp)] at co
              cases co
            rw [ap_ifS, tf]
            simp [rs, bad]
          | true =>
            rw [co] at isn
            have tf : (dNot (dB (dCall m__is_number (dCons (dVar 4) dNil)))) [some (.int (i : Int)), some (.str r), some (.str w), some (.ref m), some (.str p), none] h' = .ok false h' := by simp [isn]
            rw [ap_ifS, tf]
            simp only [bind_ok, ap_kIfS, Bool.false_eq_true, if_false, ap_next, trx_ok]
            refine hK _ _ ⟨rfl, ?_, _, rfl⟩
            rw [List.take_succ, hp, List.all_append, ha]
            simp [co]
        · rintro es h' ⟨rfl, ha, g4, rfl⟩
          rw [List.length_map, List.take_length] at *
          exact ⟨rfl, ha, _, rfl⟩
      · rintro f h' ⟨rfl, ha, g4, rfl⟩
        rw [kSeq_nx, ha]
        have lc := lc_eq1 (it := ⟨some m, [], fun _ x => x⟩) (j := 4) (t := dYes) (e := dCB fIntS (dCons (dVar 4) dNil)) (es := [some (.int (i : Int)), some (.str r), some (.str w), some (.ref m), g4, none]) (h := h') ps EV.str (fun _ => true) (fun p => EV.int ((valOf (tl p) : Nat) : Int)) n2 (by omega) rfl (fun _ _ => rfl) (fun p hp _ => by
          rw [List.all_eq_true] at ha
          obtain ⟨ep, ev⟩ := okS (ha p hp)
          have hit : PySem.intText? p = some ((valOf (tl p) : Nat) : Int) := by
            conv => lhs; rw [ep]
            exact num_int ev
          have fi := f_intS (h := h') hit (by
            have := num_slen ev
            rw [← ep] at this
            omega)
          simp [wip, fi])
        rw [List.filter_eq_self.mpr (fun _ _ => rfl)] at lc
        have n3 : lstAt (h' ++ [EO.lst (ps.map fun p => EV.int ((valOf (tl p) : Nat) : Int))]) h'.length = some (ps.map fun p => EV.int ((valOf (tl p) : Nat) : Int)) := lstAt_new
        have f3 : Fr [] h' (h' ++ [EO.lst (ps.map fun p => EV.int ((valOf (tl p) : Nat) : Int))]) := Fr.app _ _ _
        generalize h' ++ [EO.lst (ps.map fun p => EV.int ((valOf (tl p) : Nat) : Int))] = h3 at *
        simp only [ap_seq, ap_asg, ap_lc, ap_itL, ap_var, List.getElem?_cons_succ, List.getElem?_cons_zero, gV_some, bind_ok, kItL_ref n2, lc, ap_kAsg, ap_name, ap_kAsg2, kSeq_nx, List.set_cons_zero, List.set_cons_succ, ap_ret, ap_tup, ap_cons, ap_kCons, ap_starA, kStarA_ref _ _ n3, ap_nil, ap_kStarA2, ap_kCons2]
        have kt : kTup (EV.str w :: (ps.map (fun p => EV.int ((valOf (tl p) : Nat) : Int)) ++ [])) h3 = .ok (stE (w, ps.map fun p => valOf (tl p))) h3 := by
          rw [ap_kTup, if_pos (by simp; omega), List.append_nil]
          unfold stE
          rw [List.map_map]
          rfl
        rw [kt]
        simp only [bind_ok, ap_kRet, kDef_rt, trx_ok, if_true]
        exact ⟨⟨_, rfl, rfl⟩, F2.trans f3⟩
      · rintro y h' ⟨ha, rfl, rfl⟩
        rw [ha]
        simp only [Bool.false_eq_true, if_false]
        exact ⟨trivial, trivial, F2⟩
    · rw [decide_eq_false c]
      have rs := raise29 i hi h2
      simp [rs]
      exact F2
end
end K14
set_option Elab.async false
set_option linter.all false
set_option maxRecDepth 100000
set_option maxHeartbeats 4000000
namespace K14
open PySem L2 EE LW TL
theorem trx_lc {it : Wlk} {g : DG} {t : DT} {e : DE} {vs : List Nat} {xs : List EV} {es : ES} {h : EH} {Q : EV → EH → Prop} {E : Exn → EH → Prop} (J : Nat → List EV → EH → Prop) (h0 : J 0 [] h) (hcur : ∀ i acc h, J i acc h → it.cur h = some xs)
    (hstep : ∀ (i : Nat) (x : EV) acc h, xs[i]? = some x → J i acc h → TrX (g (it.tl i x) (wip es vs) h) (fun es1 h1 => TrX (t es1 h1) (fun b h2 => if b = true then TrX (e es1 h2) (fun y h3 => acc.length < 50000 ∧ J (i + 1) (acc ++ [y]) h3) E else J (i + 1) acc h2) E) E)
    (hend : ∀ acc h, J xs.length acc h → Q (.ref h.length) (h ++ [.lst acc])) : TrX (kLc g t e vs es it h) Q E := by
  have key : ∀ (m i : Nat) acc h, i + m = xs.length + 1 → i ≤ xs.length → J i acc h → TrX (lcGo it g t e vs m i acc es h) (fun acc h => J xs.length acc h) E := by
    intro m
    induction m with
    | zero =>
      intro i acc h hi hl hI
      exact absurd hi (by omega)
    | succ m ih =>
      intro i acc h hi hl hI
      unfold lcGo
      rw [hcur i acc h hI]
      simp only
      cases hx : xs[i]? with
      | none =>
        have hge := List.getElem?_eq_none_iff.mp hx
        have : i = xs.length := by omega
        subst this
        exact hI
      | some x =>
        simp only
        have hlt := (List.getElem?_eq_some_iff.mp hx).1
        rw [trx_bind]
        refine (hstep i x acc h hx hI).mono (fun es1 h1 hs1 => ?_) fun _ _ q => q
        rw [trx_bind]
        refine hs1.mono (fun b h2 hb => ?_) fun _ _ q => q
        cases b with
        | false => exact ih (i + 1) acc h2 (by omega) (by omega) hb
        | true =>
          simp only [if_true] at hb ⊢
          rw [trx_bind]
          refine hb.mono (fun y h3 hy => ?_) fun _ _ q => q
          rw [if_pos hy.1]
          exact ih (i + 1) _ h3 (by omega) (by omega) hy.2
  unfold kLc
  rw [hcur 0 [] h h0]
  simp only
  rw [trx_bind]
  exact (key _ 0 [] h (by omega) (by omega) h0).mono (fun acc h' hJ => hend acc h' hJ) fun _ _ q => q
def rowsO (t : Str) : List (Option Step) := if t = "" then [] else (Txt.split t nl).map rowO
def FstBad (os : List (Option Step)) (k : Nat) : Prop := os[k]? = some none ∧ ∀ m, m < k → os[m]? ≠ some none
section
variable {h : EH} {t : Str} {L : Nat}
theorem read_ok (T : Tz L t) (hl : L ≤ 39980) : TrX (m_read [.str t] h) (fun v h' => ∃ (l : Nat) (sts : List Step), v = .ref l ∧ rowsO t = sts.map some ∧ lstAt h' l = some (sts.map stE) ∧ Fr [] h h') (fun y h' => ∃ k : Nat, FstBad (rowsO t) k ∧ y = ⟨29, [.int (k : Int)]⟩ ∧ Fr [] h h') := by
  rw [u_read, trx_bind]
  unfold b_read
  have tst : (dB (dOp fEq (dVar 0) (dC (.str "")))) [some (.str t), none, none] h = .ok (decide (t = ("" : Str))) h := by simp
  rw [ap_seq, ap_ifS, tst]
  simp only [bind_ok, ap_kIfS]
  unfold rowsO
  by_cases c : t = ("" : Str)
  · rw [decide_eq_true c, if_pos c]
    simp
    exact Fr.app _ _ _
  · rw [decide_eq_false c, if_neg c]
    simp only [Bool.false_eq_true, if_false, ap_next, bind_ok, kSeq_nx]
    have hnl : Sep nl := .inr rfl
    obtain ⟨s1, s2, s3, s4⟩ := split_tx hnl T
    have ms := m_splitT (h := h) hnl T (by omega)
    have ms : mSplit (.str t) [.str "\n"] h = _ := ms
    have n1 : lstAt (h ++ [EO.lst ((Txt.split t nl).map EV.str)]) h.length = some ((Txt.split t nl).map EV.str) := lstAt_new
    have f1 : Fr [] h (h ++ [EO.lst ((Txt.split t nl).map EV.str)]) := Fr.app _ _ _
    generalize h ++ [EO.lst ((Txt.split t nl).map EV.str)] = h1 at *
    generalize Txt.split t nl = rows at *
    simp only [ap_ret, ap_lc, ap_itE, ap_cons, ap_sm1, ap_var, List.getElem?_cons_zero, gV_some, bind_ok, ap_kSM1, ap_c, ap_kSM1b, ms, ap_kCons, ap_nil, ap_kCons2, kItE_ref n1, trx_bind]
    refine trx_lc (xs := rows.map EV.str) (fun j acc h' => Fr [] h1 h' ∧ ∃ sts : List Step, (rows.take j).map rowO = sts.map some ∧ acc = sts.map stE) ⟨Fr.refl _ _, [], rfl, rfl⟩ (fun _ _ _ z => z.1.lst n1 (by simp)) ?_ ?_
    · rintro j x acc h2 hx ⟨f2, sts, es, rfl⟩
      rw [List.getElem?_map] at hx
      obtain ⟨r, hr, rfl⟩ := Option.map_eq_some_iff.mp hx
      have hj := (List.getElem?_eq_some_iff.mp hr).1
      have hsl : sts.length = j := by
        have := congrArg List.length es
        rw [List.length_map, List.length_map, List.length_take] at this
        omega
      have e1 : dGTup 2 (dGCons (dName 1) (dGCons (dName 2) dGNil)) (.tup [.int (j : Int), .str r]) (wip [some (.str t), none, none] [1, 2]) h2 = .ok [some (.str t), some (.int (j : Int)), some (.str r)] h2 := by simp [wip]
      have e1 : dGTup 2 (dGCons (dName 1) (dGCons (dName 2) dGNil)) ((⟨some h.length, [], fun i x => .tup [.int (i : Int), x]⟩ : Wlk).tl j (.str r)) (wip [some (.str t), none, none] [1, 2]) h2 = .ok [some (.str t), some (.int (j : Int)), some (.str r)] h2 := e1
      rw [e1]
      simp only [trx_ok, ap_yes, if_true, ap_callX, ap_cons, ap_var, List.getElem?_cons_succ, List.getElem?_cons_zero, gV_some, bind_ok, ap_kCons, ap_nil, ap_kCons2]
      refine (step_ok (s1 r (List.mem_of_getElem? hr)) (by omega) (i := j) (by omega)).mono ?_ ?_
      · rintro v h3 ⟨⟨st, e2, rfl⟩, f3⟩
        refine ⟨by rw [List.length_map]; omega, f2.trans f3, sts ++ [st], ?_, by rw [List.map_append]; rfl⟩
        rw [List.take_succ, hr, List.map_append, List.map_append, es]
        simp [e2]
      · rintro y h3 ⟨e2, rfl, f3⟩
        refine ⟨j, ⟨by rw [List.getElem?_map, hr, Option.map_some, e2], fun m hm => ?_⟩, rfl, (f1.trans f2).trans f3⟩
        have e3 : ((rows.take j).map rowO)[m]? = (sts.map some)[m]? := by rw [es]
        rw [List.getElem?_map, List.getElem?_take, if_pos hm, ← List.getElem?_map] at e3
        rw [e3, List.getElem?_map]
        intro z
        obtain ⟨st, _, z⟩ := Option.map_eq_some_iff.mp z
        cases z
    · rintro acc h2 ⟨f2, sts, es, rfl⟩
      rw [List.length_map, List.take_length] at es
      simp only [ap_kRet, trx_ok, kDef_rt]
      exact ⟨_, sts, rfl, es, lstAt_new, (f1.trans f2).trans (Fr.app _ _ _)⟩
end
end K14
set_option Elab.async false
set_option linter.all false
set_option maxRecDepth 100000
set_option maxHeartbeats 4000000
namespace K14
open PySem L2 EE LW TL
theorem rowO_good {r : Str} {st : Step} (e : rowO r = some st) : Good st := by
  unfold rowO at e
  split at e
  · cases e
  · rename_i w ps q
    split at e
    · rename_i c
      simp only [Bool.and_eq_true, decide_eq_true_eq, List.all_eq_true] at c
      cases e
      refine ⟨by simpa using c.1, fun n hn => ?_⟩
      obtain ⟨p, hp, rfl⟩ := List.mem_map.mp hn
      exact (okS (c.2 p hp)).2
    · cases e
theorem rowsO_good {t : Str} {st : Step} (h : some st ∈ rowsO t) : Good st := by
  unfold rowsO at h
  split at h
  · cases h
  · obtain ⟨r, _, e⟩ := List.mem_map.mp h
    exact rowO_good e
theorem nums_pls : ∀ l : List Nat, Pls (l.map fun (n : Nat) => EV.int n) = true ∧ deps (l.map fun (n : Nat) => EV.int n) = 0
  | [] => ⟨rfl, rfl⟩
  | n :: l => by
    obtain ⟨a, b⟩ := nums_pls l
    exact ⟨by simp only [List.map_cons, Pls, Pl, a]; rfl, by simp only [List.map_cons, deps, dep, b]; rfl⟩
theorem step_pl {st : Step} (g : Good st) : Pl (stE st) = true ∧ dep (stE st) ≤ 1 := by
  have hw := word_str _ (lookup_mem g.1)
  obtain ⟨a, b⟩ := nums_pls st.2
  refine ⟨?_, ?_⟩
  · simp only [stE, Pl, Pls, a]
    rw [hw]
    rfl
  · simp only [stE, dep, deps, b]
    omega
theorem outs_pls : ∀ {os : List (Option Step)}, (∀ st, some st ∈ os → Good st) → Pls (os.map outR) = true ∧ deps (os.map outR) ≤ 1
  | [], _ => ⟨rfl, by simp [deps]⟩
  | o :: os, g => by
    obtain ⟨a, b⟩ := outs_pls (os := os) fun st hs => g st (List.mem_cons_of_mem _ hs)
    cases o with
    | none =>
      refine ⟨by simp only [List.map_cons, outR, Pls, Pl, a]; rfl, ?_⟩
      simp only [List.map_cons, outR, deps, dep]
      omega
    | some st =>
      have k := step_pl (g st List.mem_cons_self)
      refine ⟨by simp only [List.map_cons, outR, Pls, k.1, a]; rfl, ?_⟩
      simp only [List.map_cons, outR, deps]
      have := k.2
      omega
theorem datPs_map : ∀ xs : List EV, datPs xs = xs.map datP
  | [] => rfl
  | x :: xs => by simp [datPs, datPs_map xs]
theorem outR_non {o : Option Step} : outR o = .non ↔ o = none := by
  cases o with
  | none => simp [outR]
  | some st => simp [outR, stE]
theorem fst_uniq {os : List (Option Step)} {j k : Nat} (a : FstBad os j) (b : FstBad os k) : j = k := by
  rcases Nat.lt_trichotomy j k with z | z | z
  · exact absurd a.1 (b.2 j z)
  · exact z
  · exact absurd b.1 (a.2 k z)
theorem fst_mem {os : List (Option Step)} {k : Nat} (a : FstBad os k) : none ∈ os := List.mem_of_getElem? a.1
section
variable {h : EH} {t : Str} {L : Nat} {os : List (Option Step)} {l : Nat}
theorem in_non (g : ∀ st, some st ∈ os → Good st) (e : lstAt h l = some (os.map outR)) : fInD .non (.ref l) h = .ok (.bl (decide (none ∈ os))) h := by
  obtain ⟨a, b⟩ := outs_pls g
  have d1 := dat_lstP e a
  have d2 : dat h .non = some (datP .non) := dat_pl rfl
  have m := mem_datPs (x := .non) rfl a
  have sh : (SeqAt.shaped (datP .non) && SeqAt.shaped (.list (datPs (os.map outR)))) = true := by
    rw [shaped_pl (x := .non) rfl (by simp [dep]), shaped_pls a (by omega)]
    rfl
  simp only [fInD, d1, d2, sh, if_true]
  congr 2
  rw [Bool.eq_iff_iff, m, decide_eq_true_eq, List.mem_map]
  constructor
  · rintro ⟨o, ho, e⟩
    rw [outR_non.mp e] at ho
    exact ho
  · intro z
    exact ⟨none, z, rfl⟩
theorem idx_non (g : ∀ st, some st ∈ os → Good st) (e : lstAt h l = some (os.map outR)) (hn : none ∈ os) : ∃ k : Nat, FstBad os k ∧ mIndexD (.ref l) [.non] h = .ok (.int (k : Int)) h := by
  obtain ⟨a, b⟩ := outs_pls g
  have d1 := dat_lstP e a
  have d2 : dat h .non = some (datP .non) := dat_pl rfl
  have sh : (SeqAt.shaped (.list (datPs (os.map outR))) && SeqAt.shaped (datP .non)) = true := by
    rw [shaped_pl (x := .non) rfl (by simp [dep]), shaped_pls a (by omega)]
    rfl
  have ev : ∀ o ∈ os, (PyData.eqv (datP (outR o)) (datP .non)) = decide (o = none) := fun o ho => by
    have po : Pl (outR o) = true := by
      cases o with
      | none => rfl
      | some st => exact (step_pl (g st ho)).1
    rw [Bool.eq_iff_iff, eqv_pl _ _ po rfl, outR_non, decide_eq_true_eq]
  cases c : (datPs (os.map outR)).findIdx? fun z => PyData.eqv z (datP .non) with
  | none =>
    exfalso
    rw [List.findIdx?_eq_none_iff] at c
    have := c (datP (outR none)) (by rw [datPs_map, List.map_map]; exact List.mem_map.mpr ⟨none, hn, rfl⟩)
    rw [ev none hn] at this
    simp at this
  | some j =>
    have c' := c
    rw [List.findIdx?_eq_some_iff_getElem] at c'
    obtain ⟨hj, h1, h2⟩ := c'
    have hlen : (datPs (os.map outR)).length = os.length := by rw [datPs_map, List.length_map, List.length_map]
    have gt : ∀ m (hm : m < os.length), (datPs (os.map outR))[m]'(by omega) = datP (outR os[m]) := fun m hm => by
      simp only [datPs_map, List.getElem_map]
    refine ⟨j, ⟨?_, fun m hm => ?_⟩, ?_⟩
    · rw [gt j (by omega), ev _ (List.getElem_mem _), decide_eq_true_eq] at h1
      rw [List.getElem?_eq_getElem (by omega), h1]
    · have q := h2 m hm
      rw [gt m (by omega), ev _ (List.getElem_mem _)] at q
      rw [List.getElem?_eq_getElem (by omega)]
      intro z
      simp only [Option.some.injEq] at z
      rw [z] at q
      simp at q
    · simp only [mIndexD, d1, d2, sh, if_true, c]
abbrev T10 (x2 x3 x4 x5 x6 x7 : Option EV) (t : Str) (x9 : Option EV) : ES := [some (.ref 0), some (.ref 1), x2, x3, x4, x5, x6, x7, some (.str t), x9]
theorem steps_ok {x2 x3 x4 x5 x6 x7 x9 : Option EV} (T : Tz L t) (hl : L ≤ 39980) :
    Tri (dIf (dB (dOp fNe (dVar 8) (dC (.str "")))) (dLc (dItL (dSM1 mSplit (dVar 8) (dC (.str "\n")))) (dName 9) dYes (dCall m__law_row (dCons (dVar 9) dNil)) [9]) (dLst dNil) (T10 x2 x3 x4 x5 x6 x7 t x9) h)
      fun v h' => ∃ l, v = .ref l ∧ lstAt h' l = some ((rowsO t).map outR) ∧ Fr [] h h' := by
  have tst : (dB (dOp fNe (dVar 8) (dC (.str "")))) (T10 x2 x3 x4 x5 x6 x7 t x9) h = .ok (!decide (t = ("" : Str))) h := by simp
  rw [ap_if, tst]
  simp only [bind_ok, ap_kIf]
  unfold rowsO
  by_cases c : t = ("" : Str)
  · rw [decide_eq_true c, if_pos c]
    simp only [Bool.not_true, Bool.false_eq_true, if_false, ap_lst, ap_nil, bind_ok, ap_kLst, List.length_nil, show (0 ≤ 100000) = True by simp, if_true, tri_ok]
    exact ⟨_, rfl, lstAt_new, Fr.app _ _ _⟩
  · rw [decide_eq_false c, if_neg c]
    have hnl : Sep nl := .inr rfl
    obtain ⟨s1, s2, s3, s4⟩ := split_tx hnl T
    have ms := m_splitT (h := h) hnl T (by omega)
    have ms : mSplit (.str t) [.str "\n"] h = _ := ms
    have n1 : lstAt (h ++ [EO.lst ((Txt.split t nl).map EV.str)]) h.length = some ((Txt.split t nl).map EV.str) := lstAt_new
    have f1 : Fr [] h (h ++ [EO.lst ((Txt.split t nl).map EV.str)]) := Fr.app _ _ _
    generalize h ++ [EO.lst ((Txt.split t nl).map EV.str)] = h1 at *
    generalize Txt.split t nl = rows at *
    simp only [Bool.not_false, if_true, ap_lc, ap_itL, ap_sm1, ap_var, List.getElem?_cons_succ, List.getElem?_cons_zero, gV_some, bind_ok, ap_kSM1, ap_c, ap_kSM1b, ms, kItL_ref n1]
    refine tri_lcJ (xs := rows.map EV.str) (fun j acc h' => Fr [] h1 h' ∧ acc = ((rows.take j).map rowO).map outR) ⟨Fr.refl _ _, rfl⟩ (fun _ _ _ ⟨f, _⟩ => f.lst n1 (by simp)) (fun j acc h' ⟨_, e⟩ => by rw [e, List.length_map, List.length_map, List.length_take]; omega) ?_ ?_
    · rintro j x acc h2 K hx ⟨f2, rfl⟩ _ hyes
      rw [List.getElem?_map] at hx
      obtain ⟨r, hr, rfl⟩ := Option.map_eq_some_iff.mp hx
      simp only [ap_yes, tri_ok]
      refine hyes _ fun Ke hKe => ?_
      simp only [wip, List.set_cons_succ, List.set_cons_zero, ap_call, ap_cons, ap_var, List.getElem?_cons_succ, List.getElem?_cons_zero, gV_some, bind_ok, ap_kCons, ap_nil, ap_kCons2, ap_kCall, tri_noer]
      refine (row_ok (s1 r (List.mem_of_getElem? hr)) (by omega)).mono ?_
      rintro v h3 ⟨rfl, f3⟩
      refine hKe _ _ ⟨f2.trans f3, ?_⟩
      rw [List.take_succ, hr]
      simp
    · rintro acc h2 ⟨f2, rfl⟩
      rw [List.length_map, List.take_length]
      exact ⟨_, rfl, lstAt_new, (f1.trans f2).trans (Fr.app _ _ _)⟩
def Due (t : Str) (l : Nat) (v : EV) : Prop := ((∃ sts : List Step, rowsO t = sts.map some) ∧ v = .ref l) ∨ ∃ k : Nat, FstBad (rowsO t) k ∧ v = .tup [.str "BadText", .int (k : Int)]
theorem no_none {os : List (Option Step)} (hn : none ∉ os) : ∃ sts : List Step, os = sts.map some := by
  induction os with
  | nil => exact ⟨[], rfl⟩
  | cons o os ih =>
    obtain ⟨sts, e⟩ := ih fun z => hn (List.mem_cons_of_mem _ z)
    cases o with
    | none => exact absurd List.mem_cons_self hn
    | some st => exact ⟨st :: sts, by rw [e]; rfl⟩
theorem due_ok {x2 x3 x4 x6 x7 x9 : Option EV} (e : lstAt h l = some ((rowsO t).map outR)) :
    ∃ v, dIf (dB (dOp fInD (dC .non) (dVar 5))) (dTup (dCons (dC (.str "BadText")) (dCons (dBM mIndexD (dVar 5) (dCons (dC .non) dNil)) dNil))) (dVar 5) (T10 x2 x3 x4 (some (.ref l)) x6 x7 t x9) h = .ok v h ∧ Due t l v := by
  have g : ∀ st, some st ∈ rowsO t → Good st := fun st hs => rowsO_good hs
  have i1 := in_non g e
  by_cases c : none ∈ rowsO t
  · obtain ⟨k, fb, ix⟩ := idx_non g e c
    have kb : ∀ d es, kBM mIndexD d es (.ref l) h = _ := fun d es => kBM_ref es mIndexD d e
    refine ⟨.tup [.str "BadText", .int (k : Int)], ?_, .inr ⟨k, fb, rfl⟩⟩
    rw [decide_eq_true c] at i1
    simp [i1, kb, ix]
  · rw [decide_eq_false c] at i1
    refine ⟨.ref l, ?_, .inl ⟨no_none c, rfl⟩⟩
    simp [i1]
end
end K14
set_option Elab.async false
set_option linter.all false
set_option maxRecDepth 100000
set_option maxHeartbeats 4000000
namespace K14
open PySem L2 EE LW TL
section
variable {h : EH} {t : Str} {L : Nat} {l : Nat}
theorem rows_len (T : Tz L t) : (rowsO t).length ≤ L + 1 := by
  unfold rowsO
  split
  · simp
  · rw [List.length_map]
    exact (split_tx (.inr rfl) T).2.2.2
theorem same_steps {a b : Nat} {sts : List Step} (g : ∀ st ∈ sts, Good st) (hl : sts.length < 40000) (ha : lstAt h a = some (sts.map stE)) (hb : lstAt h b = some (sts.map stE)) : Tri (LW.m__law_same 8 [.ref a, .ref b] h) fun v h' => v = .bl true ∧ Fr [] h h' := by
  have dp := depth_steps sts
  refine LW.same 8 (.list (sts.map stD)) _ _ h ?_ ?_ (by simp only [PyData.depth]; omega) (by simp [sm, sms_steps g, hl])
  · simp only [Dt]; exact ⟨_, _, rfl, ha, dts_steps sts⟩
  · simp only [Dt]; exact ⟨_, _, rfl, hb, dts_steps sts⟩
theorem same_bad {i : Int} {x : EV} (hx : EV.tup [.str "BadText", .int i] = x) : Tri (LW.m__law_same 8 [x, x] h) fun v h' => v = .bl true ∧ Fr [] h h' :=
  LW.same 8 (.tuple [.str "BadText", .int i]) x x h (by simp only [Dt, Dts]; exact ⟨_, hx.symm, _, _, rfl, rfl, _, _, rfl, rfl, rfl⟩) (by simp only [Dt, Dts]; exact ⟨_, hx.symm, _, _, rfl, rfl, _, _, rfl, rfl, rfl⟩) (by simp only [PyData.depth, PyData.depthAll]; decide) (by simp only [sm, sms, List.length_cons, List.length_nil]; rfl)
theorem told_ok {x2 x3 x4 x5 x7 x9 : Option EV} {v : EV} (T : Tz L t) (hl : L ≤ 39980) (e : lstAt h l = some ((rowsO t).map outR)) (D : Due t l v) :
    Tri (dNot (dB (dCall (LW.m__law_same 8) (dCons (dWord rs_word (dCallX m_read (dCons (dVar 8) dNil))) (dCons (dVar 6) dNil)))) (T10 x2 x3 x4 x5 (some v) x7 t x9) h) fun b h' => b = false ∧ Fr [] h h' := by
  simp only [ap_not, ap_B, ap_call, ap_cons, tri_bind]
  refine trx_word (Q := fun u h1 => Tri (kCons (dCons (dVar 6) dNil) (T10 x2 x3 x4 x5 (some v) x7 t x9) u h1) _) (E := fun y h1 => ∃ k : Nat, FstBad (rowsO t) k ∧ y = ⟨29, [.int (k : Int)]⟩ ∧ Fr [] h h1) ?_ ?_
  · have ec : dCallX m_read (dCons (dVar 8) dNil) (T10 x2 x3 x4 x5 (some v) x7 t x9) h = m_read [.str t] h := by simp
    rw [ec]
    refine (read_ok T hl).mono ?_ fun _ _ z => z
    rintro u h1 ⟨a, sts, rfl, es, la, f1⟩
    have el := f1.lst e (by simp)
    rcases D with ⟨_, rfl⟩ | ⟨k, fb, rfl⟩
    · have g : ∀ st ∈ sts, Good st := fun st hs => rowsO_good (by rw [es]; exact List.mem_map_of_mem hs)
      have rl := rows_len T
      rw [es, List.length_map] at rl
      rw [es, List.map_map] at el
      simp only [ap_kCons, ap_cons, ap_var, List.getElem?_cons_succ, List.getElem?_cons_zero, gV_some, bind_ok, ap_nil, ap_kCons2, tri_ok, ap_kCall, tri_noer]
      refine (same_steps g (by omega) la el).mono ?_
      rintro w h2 ⟨rfl, f2⟩
      simp
      exact f1.trans f2
    · exfalso
      have := fst_mem fb
      rw [es] at this
      obtain ⟨st, _, z⟩ := List.mem_map.mp this
      cases z
  · rintro y h1 ⟨k, fb, rfl, f1⟩
    refine ⟨.tup [.str "BadText", .int (k : Int)], h1 ++ WW.junk 29, rfl, ?_⟩
    have f2 : Fr [] h1 (h1 ++ WW.junk 29) := Fr.app _ _ _
    generalize h1 ++ WW.junk 29 = h2 at *
    have ev : v = .tup [.str "BadText", .int (k : Int)] := by
      rcases D with ⟨⟨sts, es⟩, _⟩ | ⟨k', fb', rfl⟩
      · exfalso
        have := fst_mem fb
        rw [es] at this
        obtain ⟨st, _, z⟩ := List.mem_map.mp this
        cases z
      · rw [fst_uniq fb fb']
    rw [← ev]
    simp only [ap_kCons, ap_cons, ap_var, List.getElem?_cons_succ, List.getElem?_cons_zero, gV_some, bind_ok, ap_nil, ap_kCons2, tri_ok, ap_kCall, tri_noer]
    refine (same_bad ev.symm).mono ?_
    rintro w h3 ⟨rfl, f3⟩
    simp
    exact (f1.trans f2).trans f3
end
end K14
set_option Elab.async false
set_option linter.all false
set_option maxRecDepth 100000
set_option maxHeartbeats 4000000
namespace K14
open PySem L2 EE LW TL
theorem newT (h : EH) (xs : List EV) : (h ++ [EO.lst xs])[h.length]? = some (.lst xs) := by rw [List.getElem?_append_right (Nat.le_refl _), Nat.sub_self]; rfl
theorem cut_take (ps : List EV) (k : Nat) : cutE ps none (some (k : Int)) = ps.take k := by
  unfold cutE
  rw [show HT.sIx ps.length ps.length (some (k : Int)) = min k ps.length from HT.sIx_nat _ _ _, show HT.sIx ps.length 0 none = 0 from rfl]
  simp only [List.drop_zero, Nat.sub_zero]
  by_cases hk : k ≤ ps.length
  · rw [Nat.min_eq_left hk]
  · rw [Nat.min_eq_right (by omega), List.take_of_length_le (Nat.le_refl _), List.take_of_length_le (by omega)]
abbrev S11 (s : Nat) (t : Str) (x2 x3 x4 x5 x6 x7 x8 x9 x10 : Option EV) : ES := [some (.ref s), some (.str t), x2, x3, x4, x5, x6, x7, x8, x9, x10]
def signS : Str := "0123456789 -\nabcdefghijklmnopqrstuvwxyz!#$&'()*+,./:;<=>?@ABCDEFGHIJKLMNOPQRSTUVWXYZ[]^_{|}~"
theorem signS_ok : (tl signS).length = 92 ∧ (tl signS).all (fun c => decide (c < 128)) = true := by decide +kernel
theorem pickI {h : EH} {m : Nat} {xs : List Int} {r : Int} (e : lstAt h m = some (xs.map .int)) (h0 : 0 ≤ r) (h1 : r < xs.length) : ∃ v ∈ xs, fIx (.ref m) (.int r) h = .ok (.int v) h := by
  obtain ⟨k, rfl⟩ := Int.eq_ofNat_of_zero_le h0
  have hk : k < xs.length := by omega
  exact ⟨xs[k], List.getElem_mem hk, f_ixL _ e k rfl (by rw [List.getElem?_map, List.getElem?_eq_getElem hk]; rfl)⟩
theorem pickE {h : EH} {m : Nat} {xs : List EV} {r : Int} (e : lstAt h m = some xs) (h0 : 0 ≤ r) (h1 : r < xs.length) : ∃ v ∈ xs, fIx (.ref m) (.int r) h = .ok v h := by
  obtain ⟨k, rfl⟩ := Int.eq_ofNat_of_zero_le h0
  have hk : k < xs.length := by omega
  exact ⟨xs[k], List.getElem_mem hk, f_ixL _ e k rfl (List.getElem?_eq_getElem hk)⟩
theorem ix_sign {h : EH} {z : Str} {r : Int} (h0 : 0 ≤ r) (h1 : r < (tl z).length) (hz : z.length ≤ 100000) : ∃ c ∈ tl z, fIxX (.str z) (.int r) h = .ok (sg c) h := by
  obtain ⟨k, rfl⟩ := Int.eq_ofNat_of_zero_le h0
  have hk : k < (tl z).length := by omega
  have e : atI z.cps.toList (k : Int) = some (tl z)[k] := atI_nat (List.getElem?_eq_getElem hk)
  refine ⟨(tl z)[k], List.getElem_mem hk, ?_⟩
  unfold fIxX
  simp only [hz, if_true, e]
  rfl
theorem f_catT2 {h : EH} {a b : Str} (hl : a.length + b.length ≤ 100000) : fCatS (.str a) (.str b) h = .ok (.str (a ++ b)) h := f_catS h a b hl
section
variable {ns : List Int} {h : EH} {s : Nat} {t : Str} {L : Nat}
theorem sp1 (hs : St ns h s) (T : Tz L t) (hl : L ≤ 9990) : Tri (dPar 2 3 (dCons (dCall LW.m__law_drawn (dCons (dVar 0) (dCons (dC (.int 9)) dNil))) (dCons (dOp fIx (dLst (dCons (dCall LW.m__law_drawn (dCons (dVar 0) (dCons (dOp fAdd (dCB fLenS (dCons (dVar 1) dNil)) (dC (.int 1))) dNil))) (dCons (dCB fLenS (dCons (dVar 1) dNil)) dNil))) (dOp fDiv (dCall LW.m__law_drawn (dCons (dVar 0) (dCons (dC (.int 5)) dNil))) (dC (.int 4)))) dNil)) (S11 s t none none none none none none none none none) h)
    fun f h' => ∃ w a : Nat, w < 9 ∧ St ns h' s ∧ Fr [s] h h' ∧ f = .nx (S11 s t (some (.int (w : Int))) (some (.int (a : Int))) none none none none none none none) := by
  have fl : ∀ h : EH, fLenS [.str t] h = .ok (.int (t.length : Int)) h := fun h => f_lenS h t (by have := T.len; omega)
  have tlen := T.len
  try simp only [ap_seq, ap_asg, ap_call, ap_callX, ap_cons, ap_var, ap_c, ap_nil, ap_tup, ap_lst, ap_op, ap_cb, ap_ret, ap_drop, ap_ifS, ap_for, ap_B, ap_par, ap_name, ap_gtup, ap_gcons, ap_gnil, ap_kG, ap_itL, ap_itR1, ap_lc, ap_next, ap_un, ap_if, ap_sl, ap_part, ap_part0, ap_kPart, ap_kSl, ap_kSl2, ap_kSl3, ap_bm, ap_kBM2, ap_not, ap_kNot, List.getElem?_cons_zero, List.getElem?_cons_succ, gV_some, bind_ok, bind_er, ap_kCons, ap_kCons2, ap_kCall, ap_kTup, ap_kLst, ap_kOp, ap_kOp2, ap_kAsg, ap_kAsg2, ap_kRet, ap_kDrop, ap_kPar, ap_kB, ap_kIfS, ap_kIf, kSeq_nx, kSeq_rt, kDef_rt, kDef_nx, ap_kLc2, tri_bind, tri_noer, trx_bind, trx_noer, tri_ok, trx_ok, trx_er, List.set_cons_zero, List.set_cons_succ, List.length_cons, List.length_nil, Nat.zero_add, Nat.reduceAdd, Nat.reduceLeDiff, if_true, f_add, f_sub]
  refine drawnF hs (by decide) (by decide) fun w h1 w0 w1 s1 f1 _ => ?_
  try simp only [ap_seq, ap_asg, ap_call, ap_callX, ap_cons, ap_var, ap_c, ap_nil, ap_tup, ap_lst, ap_op, ap_cb, ap_ret, ap_drop, ap_ifS, ap_for, ap_B, ap_par, ap_name, ap_gtup, ap_gcons, ap_gnil, ap_kG, ap_itL, ap_itR1, ap_lc, ap_next, ap_un, ap_if, ap_sl, ap_part, ap_part0, ap_kPart, ap_kSl, ap_kSl2, ap_kSl3, ap_bm, ap_kBM2, ap_not, ap_kNot, List.getElem?_cons_zero, List.getElem?_cons_succ, gV_some, bind_ok, bind_er, ap_kCons, ap_kCons2, ap_kCall, ap_kTup, ap_kLst, ap_kOp, ap_kOp2, ap_kAsg, ap_kAsg2, ap_kRet, ap_kDrop, ap_kPar, ap_kB, ap_kIfS, ap_kIf, kSeq_nx, kSeq_rt, kDef_rt, kDef_nx, ap_kLc2, tri_bind, tri_noer, trx_bind, trx_noer, tri_ok, trx_ok, trx_er, List.set_cons_zero, List.set_cons_succ, List.length_cons, List.length_nil, Nat.zero_add, Nat.reduceAdd, Nat.reduceLeDiff, if_true, f_add, f_sub]
  rw [fl]
  try simp only [ap_seq, ap_asg, ap_call, ap_callX, ap_cons, ap_var, ap_c, ap_nil, ap_tup, ap_lst, ap_op, ap_cb, ap_ret, ap_drop, ap_ifS, ap_for, ap_B, ap_par, ap_name, ap_gtup, ap_gcons, ap_gnil, ap_kG, ap_itL, ap_itR1, ap_lc, ap_next, ap_un, ap_if, ap_sl, ap_part, ap_part0, ap_kPart, ap_kSl, ap_kSl2, ap_kSl3, ap_bm, ap_kBM2, ap_not, ap_kNot, List.getElem?_cons_zero, List.getElem?_cons_succ, gV_some, bind_ok, bind_er, ap_kCons, ap_kCons2, ap_kCall, ap_kTup, ap_kLst, ap_kOp, ap_kOp2, ap_kAsg, ap_kAsg2, ap_kRet, ap_kDrop, ap_kPar, ap_kB, ap_kIfS, ap_kIf, kSeq_nx, kSeq_rt, kDef_rt, kDef_nx, ap_kLc2, tri_bind, tri_noer, trx_bind, trx_noer, tri_ok, trx_ok, trx_er, List.set_cons_zero, List.set_cons_succ, List.length_cons, List.length_nil, Nat.zero_add, Nat.reduceAdd, Nat.reduceLeDiff, if_true, f_add, f_sub]
  refine drawnF s1 (by omega) (by omega) fun a h2 a0 a1 s2 f2 _ => ?_
  try simp only [ap_seq, ap_asg, ap_call, ap_callX, ap_cons, ap_var, ap_c, ap_nil, ap_tup, ap_lst, ap_op, ap_cb, ap_ret, ap_drop, ap_ifS, ap_for, ap_B, ap_par, ap_name, ap_gtup, ap_gcons, ap_gnil, ap_kG, ap_itL, ap_itR1, ap_lc, ap_next, ap_un, ap_if, ap_sl, ap_part, ap_part0, ap_kPart, ap_kSl, ap_kSl2, ap_kSl3, ap_bm, ap_kBM2, ap_not, ap_kNot, List.getElem?_cons_zero, List.getElem?_cons_succ, gV_some, bind_ok, bind_er, ap_kCons, ap_kCons2, ap_kCall, ap_kTup, ap_kLst, ap_kOp, ap_kOp2, ap_kAsg, ap_kAsg2, ap_kRet, ap_kDrop, ap_kPar, ap_kB, ap_kIfS, ap_kIf, kSeq_nx, kSeq_rt, kDef_rt, kDef_nx, ap_kLc2, tri_bind, tri_noer, trx_bind, trx_noer, tri_ok, trx_ok, trx_er, List.set_cons_zero, List.set_cons_succ, List.length_cons, List.length_nil, Nat.zero_add, Nat.reduceAdd, Nat.reduceLeDiff, if_true, f_add, f_sub]
  rw [fl]
  try simp only [ap_seq, ap_asg, ap_call, ap_callX, ap_cons, ap_var, ap_c, ap_nil, ap_tup, ap_lst, ap_op, ap_cb, ap_ret, ap_drop, ap_ifS, ap_for, ap_B, ap_par, ap_name, ap_gtup, ap_gcons, ap_gnil, ap_kG, ap_itL, ap_itR1, ap_lc, ap_next, ap_un, ap_if, ap_sl, ap_part, ap_part0, ap_kPart, ap_kSl, ap_kSl2, ap_kSl3, ap_bm, ap_kBM2, ap_not, ap_kNot, List.getElem?_cons_zero, List.getElem?_cons_succ, gV_some, bind_ok, bind_er, ap_kCons, ap_kCons2, ap_kCall, ap_kTup, ap_kLst, ap_kOp, ap_kOp2, ap_kAsg, ap_kAsg2, ap_kRet, ap_kDrop, ap_kPar, ap_kB, ap_kIfS, ap_kIf, kSeq_nx, kSeq_rt, kDef_rt, kDef_nx, ap_kLc2, tri_bind, tri_noer, trx_bind, trx_noer, tri_ok, trx_ok, trx_er, List.set_cons_zero, List.set_cons_succ, List.length_cons, List.length_nil, Nat.zero_add, Nat.reduceAdd, Nat.reduceLeDiff, if_true, f_add, f_sub]
  have g3 : Fr [] h2 (h2 ++ [EO.lst [.int a, .int (t.length : Int)]]) := Fr.app _ _ _
  have l3 : lstAt (h2 ++ [EO.lst [.int a, .int (t.length : Int)]]) h2.length = some ([a, (t.length : Int)].map .int) := lstAt_new
  have nl' : h2.length ≠ s := by have := s2.lt; omega
  refine drawnF (s2.fr g3) (by decide) (by decide) fun r h4 r0 r1 s4 f4 _ => ?_
  have dv : fDiv (.int r) (.int 4) h4 = .ok (.int (r / 4)) h4 := f_div h4 r 4 (by decide) (by decide)
  try simp only [ap_seq, ap_asg, ap_call, ap_callX, ap_cons, ap_var, ap_c, ap_nil, ap_tup, ap_lst, ap_op, ap_cb, ap_ret, ap_drop, ap_ifS, ap_for, ap_B, ap_par, ap_name, ap_gtup, ap_gcons, ap_gnil, ap_kG, ap_itL, ap_itR1, ap_lc, ap_next, ap_un, ap_if, ap_sl, ap_part, ap_part0, ap_kPart, ap_kSl, ap_kSl2, ap_kSl3, ap_bm, ap_kBM2, ap_not, ap_kNot, List.getElem?_cons_zero, List.getElem?_cons_succ, gV_some, bind_ok, bind_er, ap_kCons, ap_kCons2, ap_kCall, ap_kTup, ap_kLst, ap_kOp, ap_kOp2, ap_kAsg, ap_kAsg2, ap_kRet, ap_kDrop, ap_kPar, ap_kB, ap_kIfS, ap_kIf, kSeq_nx, kSeq_rt, kDef_rt, kDef_nx, ap_kLc2, tri_bind, tri_noer, trx_bind, trx_noer, tri_ok, trx_ok, trx_er, List.set_cons_zero, List.set_cons_succ, List.length_cons, List.length_nil, Nat.zero_add, Nat.reduceAdd, Nat.reduceLeDiff, if_true, f_add, f_sub]
  rw [dv]
  try simp only [ap_seq, ap_asg, ap_call, ap_callX, ap_cons, ap_var, ap_c, ap_nil, ap_tup, ap_lst, ap_op, ap_cb, ap_ret, ap_drop, ap_ifS, ap_for, ap_B, ap_par, ap_name, ap_gtup, ap_gcons, ap_gnil, ap_kG, ap_itL, ap_itR1, ap_lc, ap_next, ap_un, ap_if, ap_sl, ap_part, ap_part0, ap_kPart, ap_kSl, ap_kSl2, ap_kSl3, ap_bm, ap_kBM2, ap_not, ap_kNot, List.getElem?_cons_zero, List.getElem?_cons_succ, gV_some, bind_ok, bind_er, ap_kCons, ap_kCons2, ap_kCall, ap_kTup, ap_kLst, ap_kOp, ap_kOp2, ap_kAsg, ap_kAsg2, ap_kRet, ap_kDrop, ap_kPar, ap_kB, ap_kIfS, ap_kIf, kSeq_nx, kSeq_rt, kDef_rt, kDef_nx, ap_kLc2, tri_bind, tri_noer, trx_bind, trx_noer, tri_ok, trx_ok, trx_er, List.set_cons_zero, List.set_cons_succ, List.length_cons, List.length_nil, Nat.zero_add, Nat.reduceAdd, Nat.reduceLeDiff, if_true, f_add, f_sub]
  obtain ⟨v, hv, ev⟩ := pickI (f4.lst l3 (by simpa using nl')) (r := r / 4) (by omega) (by simp; omega)
  rw [ev]
  try simp only [ap_seq, ap_asg, ap_call, ap_callX, ap_cons, ap_var, ap_c, ap_nil, ap_tup, ap_lst, ap_op, ap_cb, ap_ret, ap_drop, ap_ifS, ap_for, ap_B, ap_par, ap_name, ap_gtup, ap_gcons, ap_gnil, ap_kG, ap_itL, ap_itR1, ap_lc, ap_next, ap_un, ap_if, ap_sl, ap_part, ap_part0, ap_kPart, ap_kSl, ap_kSl2, ap_kSl3, ap_bm, ap_kBM2, ap_not, ap_kNot, List.getElem?_cons_zero, List.getElem?_cons_succ, gV_some, bind_ok, bind_er, ap_kCons, ap_kCons2, ap_kCall, ap_kTup, ap_kLst, ap_kOp, ap_kOp2, ap_kAsg, ap_kAsg2, ap_kRet, ap_kDrop, ap_kPar, ap_kB, ap_kIfS, ap_kIf, kSeq_nx, kSeq_rt, kDef_rt, kDef_nx, ap_kLc2, tri_bind, tri_noer, trx_bind, trx_noer, tri_ok, trx_ok, trx_er, List.set_cons_zero, List.set_cons_succ, List.length_cons, List.length_nil, Nat.zero_add, Nat.reduceAdd, Nat.reduceLeDiff, if_true, f_add, f_sub]
  simp only [List.mem_cons, List.not_mem_nil, or_false] at hv
  obtain ⟨w, rfl⟩ := Int.eq_ofNat_of_zero_le w0
  obtain ⟨v, rfl⟩ := Int.eq_ofNat_of_zero_le (show 0 ≤ v by rcases hv with rfl | rfl <;> omega)
  exact ⟨w, v, by omega, s4, ((f1.trans f2).trans (g3.weak (by simp))).trans f4, rfl⟩
theorem sp2 {x2 x3 : Option EV} (hs : St ns h s) : Tri (dAsg (dOp fIxX (dVar 4) (dCall LW.m__law_drawn (dCons (dVar 0) (dCons (dOp fIx (dLst (dCons (dC (.int 13)) (dCons (dCB fLenS (dCons (dVar 4) dNil)) dNil))) (dCall LW.m__law_drawn (dCons (dVar 0) (dCons (dC (.int 2)) dNil)))) dNil)))) (dName 5) (S11 s t x2 x3 (some (.str signS)) none none none none none none) h)
    fun f h' => ∃ c : Nat, c < 128 ∧ St ns h' s ∧ Fr [s] h h' ∧ f = .nx (S11 s t x2 x3 (some (.str signS)) (some (sg c)) none none none none none) := by
  have hl : signS.length = 92 := by rw [len_tl]; exact signS_ok.1
  have fl : ∀ h : EH, fLenS [.str signS] h = .ok (.int 92) h := fun h => by
    have := f_lenS h signS (by omega)
    rw [hl] at this
    exact this
  have asc : ∀ c ∈ tl signS, c < 128 := fun c hc => by
    have := List.all_eq_true.mp signS_ok.2 c hc
    simpa using this
  have hl92 := signS_ok.1
  generalize signS = S at *
  try simp only [ap_seq, ap_asg, ap_call, ap_callX, ap_cons, ap_var, ap_c, ap_nil, ap_tup, ap_lst, ap_op, ap_cb, ap_ret, ap_drop, ap_ifS, ap_for, ap_B, ap_par, ap_name, ap_gtup, ap_gcons, ap_gnil, ap_kG, ap_itL, ap_itR1, ap_lc, ap_next, ap_un, ap_if, ap_sl, ap_part, ap_part0, ap_kPart, ap_kSl, ap_kSl2, ap_kSl3, ap_bm, ap_kBM2, ap_not, ap_kNot, List.getElem?_cons_zero, List.getElem?_cons_succ, gV_some, bind_ok, bind_er, ap_kCons, ap_kCons2, ap_kCall, ap_kTup, ap_kLst, ap_kOp, ap_kOp2, ap_kAsg, ap_kAsg2, ap_kRet, ap_kDrop, ap_kPar, ap_kB, ap_kIfS, ap_kIf, kSeq_nx, kSeq_rt, kDef_rt, kDef_nx, ap_kLc2, tri_bind, tri_noer, trx_bind, trx_noer, tri_ok, trx_ok, trx_er, List.set_cons_zero, List.set_cons_succ, List.length_cons, List.length_nil, Nat.zero_add, Nat.reduceAdd, Nat.reduceLeDiff, if_true, f_add, f_sub]
  rw [fl]
  try simp only [ap_seq, ap_asg, ap_call, ap_callX, ap_cons, ap_var, ap_c, ap_nil, ap_tup, ap_lst, ap_op, ap_cb, ap_ret, ap_drop, ap_ifS, ap_for, ap_B, ap_par, ap_name, ap_gtup, ap_gcons, ap_gnil, ap_kG, ap_itL, ap_itR1, ap_lc, ap_next, ap_un, ap_if, ap_sl, ap_part, ap_part0, ap_kPart, ap_kSl, ap_kSl2, ap_kSl3, ap_bm, ap_kBM2, ap_not, ap_kNot, List.getElem?_cons_zero, List.getElem?_cons_succ, gV_some, bind_ok, bind_er, ap_kCons, ap_kCons2, ap_kCall, ap_kTup, ap_kLst, ap_kOp, ap_kOp2, ap_kAsg, ap_kAsg2, ap_kRet, ap_kDrop, ap_kPar, ap_kB, ap_kIfS, ap_kIf, kSeq_nx, kSeq_rt, kDef_rt, kDef_nx, ap_kLc2, tri_bind, tri_noer, trx_bind, trx_noer, tri_ok, trx_ok, trx_er, List.set_cons_zero, List.set_cons_succ, List.length_cons, List.length_nil, Nat.zero_add, Nat.reduceAdd, Nat.reduceLeDiff, if_true, f_add, f_sub]
  have g1 : Fr [] h (h ++ [EO.lst [.int 13, .int 92]]) := Fr.app _ _ _
  have l1 : lstAt (h ++ [EO.lst [.int 13, .int 92]]) h.length = some ([13, 92].map .int) := lstAt_new
  have nl' : h.length ≠ s := by have := hs.lt; omega
  refine drawnF (hs.fr g1) (by decide) (by decide) fun r h2 r0 r1 s2 f2 _ => ?_
  obtain ⟨v, hv, ev⟩ := pickI (f2.lst l1 (by simpa using nl')) r0 (by simpa using r1)
  rw [ev]
  try simp only [ap_seq, ap_asg, ap_call, ap_callX, ap_cons, ap_var, ap_c, ap_nil, ap_tup, ap_lst, ap_op, ap_cb, ap_ret, ap_drop, ap_ifS, ap_for, ap_B, ap_par, ap_name, ap_gtup, ap_gcons, ap_gnil, ap_kG, ap_itL, ap_itR1, ap_lc, ap_next, ap_un, ap_if, ap_sl, ap_part, ap_part0, ap_kPart, ap_kSl, ap_kSl2, ap_kSl3, ap_bm, ap_kBM2, ap_not, ap_kNot, List.getElem?_cons_zero, List.getElem?_cons_succ, gV_some, bind_ok, bind_er, ap_kCons, ap_kCons2, ap_kCall, ap_kTup, ap_kLst, ap_kOp, ap_kOp2, ap_kAsg, ap_kAsg2, ap_kRet, ap_kDrop, ap_kPar, ap_kB, ap_kIfS, ap_kIf, kSeq_nx, kSeq_rt, kDef_rt, kDef_nx, ap_kLc2, tri_bind, tri_noer, trx_bind, trx_noer, tri_ok, trx_ok, trx_er, List.set_cons_zero, List.set_cons_succ, List.length_cons, List.length_nil, Nat.zero_add, Nat.reduceAdd, Nat.reduceLeDiff, if_true, f_add, f_sub]
  simp only [List.mem_cons, List.not_mem_nil, or_false] at hv
  refine drawnF s2 (by rcases hv with rfl | rfl <;> decide) (by rcases hv with rfl | rfl <;> decide) fun k h3 k0 k1 s3 f3 _ => ?_
  obtain ⟨c, hc, ec⟩ := ix_sign (h := h3) (z := S) k0 (by rcases hv with rfl | rfl <;> omega) (by omega)
  rw [ec]
  try simp only [ap_seq, ap_asg, ap_call, ap_callX, ap_cons, ap_var, ap_c, ap_nil, ap_tup, ap_lst, ap_op, ap_cb, ap_ret, ap_drop, ap_ifS, ap_for, ap_B, ap_par, ap_name, ap_gtup, ap_gcons, ap_gnil, ap_kG, ap_itL, ap_itR1, ap_lc, ap_next, ap_un, ap_if, ap_sl, ap_part, ap_part0, ap_kPart, ap_kSl, ap_kSl2, ap_kSl3, ap_bm, ap_kBM2, ap_not, ap_kNot, List.getElem?_cons_zero, List.getElem?_cons_succ, gV_some, bind_ok, bind_er, ap_kCons, ap_kCons2, ap_kCall, ap_kTup, ap_kLst, ap_kOp, ap_kOp2, ap_kAsg, ap_kAsg2, ap_kRet, ap_kDrop, ap_kPar, ap_kB, ap_kIfS, ap_kIf, kSeq_nx, kSeq_rt, kDef_rt, kDef_nx, ap_kLc2, tri_bind, tri_noer, trx_bind, trx_noer, tri_ok, trx_ok, trx_er, List.set_cons_zero, List.set_cons_succ, List.length_cons, List.length_nil, Nat.zero_add, Nat.reduceAdd, Nat.reduceLeDiff, if_true, f_add, f_sub]
  exact ⟨c, asc c hc, s3, ((g1.weak (by simp)).trans f2).trans f3, rfl⟩
theorem tx_sign {c : Nat} (hc : c < 128) : Tz 1 ⟨#[c]⟩ := ⟨fun d hd => by
  have : d ∈ [c] := hd
  rw [List.mem_singleton.mp this]
  exact hc, Nat.le_refl _⟩
theorem sp3 {w a c : Nat} {x4 : Option EV} (T : Tz L t) (hl : L ≤ 9990) (hw : w < 3) (hc : c < 128) : ∃ t' h', dOp fCatS (dOp fCatS (dSl fSlX (dVar 1) (dPart none) (dPart (some (dVar 3)))) (dOp fIx (dLst (dCons (dVar 5) (dCons (dC (.str "")) (dCons (dVar 5) dNil)))) (dVar 2))) (dSl fSlX (dVar 1) (dPart (some (dOp fAdd (dVar 3) (dCB fInt1 (dCons (dOp fGt (dVar 2) (dC (.int 0))) dNil))))) (dPart none)) (S11 s t (some (.int (w : Int))) (some (.int (a : Int))) x4 (some (sg c)) none none none none none) h = .ok (.str t') h' ∧ Tz (L + 1 + L) t' ∧ Fr [] h h' := by
  have tlen := T.len
  have sx : ∀ lo hi (h : EH), fSlX (.str t) lo hi h = .ok (.str (cutS t lo hi)) h := fun lo hi h => by
    unfold fSlX
    simp only [show (t.length ≤ 100000) = True from eq_true (by omega), if_true]
  have g1 : Fr [] h (h ++ [EO.lst [sg c, .str "", sg c]]) := Fr.app _ _ _
  have l1 : lstAt (h ++ [EO.lst [sg c, .str "", sg c]]) h.length = some [sg c, .str "", sg c] := lstAt_new
  obtain ⟨v, hv, ev⟩ := pickE l1 (r := (w : Int)) (by omega) (by simp; omega)
  obtain ⟨u, rfl, Tu⟩ : ∃ u : Str, v = .str u ∧ Tz 1 u := by
    simp only [List.mem_cons, List.not_mem_nil, or_false] at hv
    rcases hv with rfl | rfl | rfl
    · exact ⟨_, rfl, tx_sign hc⟩
    · exact ⟨_, rfl, ⟨fun d hd => (by cases hd), by decide⟩⟩
    · exact ⟨_, rfl, tx_sign hc⟩
  have T1 := tx_cut T none (some (a : Int))
  have c1 : ∀ h : EH, fCatS (.str (cutS t none (some (a : Int)))) (.str u) h = .ok (.str (cutS t none (some (a : Int)) ++ u)) h := fun h => f_catT2 (by have := T1.len; have := Tu.len; omega)
  have T2 := tx_cat T1 Tu
  generalize (cutS t none (some (a : Int)) ++ u) = z at *
  obtain ⟨b, hb⟩ : ∃ b : Int, ∀ h : EH, (dOp fAdd (dVar 3) (dCB fInt1 (dCons (dOp fGt (dVar 2) (dC (.int 0))) dNil))) (S11 s t (some (.int (w : Int))) (some (.int (a : Int))) x4 (some (sg c)) none none none none none) h = .ok (.int b) h := by
    have fi : ∀ (q : Bool) (h : EH), fInt1 [.bl q] h = .ok (.int (if q then 1 else 0)) h := fun _ _ => rfl
    refine ⟨(a : Int) + (if decide ((w : Int) > 0) = true then 1 else 0), fun h => ?_⟩
    simp only [ap_op, ap_var, List.getElem?_cons_succ, List.getElem?_cons_zero, gV_some, bind_ok, ap_kOp, ap_cb, ap_cons, ap_c, ap_kOp2, f_gt, ap_kCons, ap_nil, ap_kCons2, fi, f_add]
  have T3 := tx_cut T (some b) none
  have c2 : ∀ h : EH, fCatS (.str z) (.str (cutS t (some b) none)) h = .ok (.str (z ++ cutS t (some b) none)) h := fun h => f_catT2 (by have := T2.len; have := T3.len; omega)
  have T4 := tx_cat T2 T3
  refine ⟨_, _, ?_, T4, g1⟩
  rw [ap_op, ap_op]
  simp only [ap_sl, ap_var, List.getElem?_cons_succ, List.getElem?_cons_zero, gV_some, bind_ok, ap_kSl, ap_part0, ap_kSl2, ap_part, ap_kPart, ap_kSl3, sx, ap_kOp]
  rw [ap_op]
  simp only [ap_lst, ap_cons, ap_var, List.getElem?_cons_succ, List.getElem?_cons_zero, gV_some, bind_ok, ap_kCons, ap_c, ap_nil, ap_kCons2, ap_kLst, List.length_cons, List.length_nil, Nat.zero_add, Nat.reduceAdd, Nat.reduceLeDiff, if_true, ap_kOp, ap_kOp2, ev, c1]
  simp only [ap_sl, ap_var, List.getElem?_cons_succ, List.getElem?_cons_zero, gV_some, bind_ok, ap_kSl, ap_part, hb, ap_kPart, ap_kSl2, ap_part0, ap_kSl3, sx, ap_kOp2, c2]
end
end K14
set_option Elab.async false
set_option linter.all false
set_option maxRecDepth 100000
set_option maxHeartbeats 4000000
namespace K14
open PySem L2 EE LW TL
section
variable {ns : List Int} {h : EH} {s : Nat} {t : Str} {L : Nat}
theorem preT {a : Nat} {A : List Str} (ha : h[a]? = some (.lst (A.map EV.str))) (k : Nat) : fSl (.ref a) none (some (k : Int)) h = .ok (.ref h.length) (h ++ [.lst ((A.take k).map EV.str)]) := by
  have := f_slice (lstAt_of ha) none (some (k : Int))
  rwa [cut_take, ← List.map_take] at this
theorem sufT {a : Nat} {A : List Str} (ha : h[a]? = some (.lst (A.map EV.str))) (k : Nat) : fSl (.ref a) (some (k : Int)) none h = .ok (.ref h.length) (h ++ [.lst ((A.drop k).map EV.str)]) := by
  have := f_slice (lstAt_of ha) (some (k : Int)) none
  rwa [cut_drop, ← List.map_drop] at this
theorem catT {a b : Nat} {A B : List Str} (ha : h[a]? = some (.lst (A.map EV.str))) (hb : h[b]? = some (.lst (B.map EV.str))) (hl : A.length + B.length ≤ 100000) : fAdd (.ref a) (.ref b) h = .ok (.ref h.length) (h ++ [.lst ((A ++ B).map EV.str)]) := by
  have := f_cat (mutAt_of ha) (mutAt_of hb) (by simpa using hl)
  rwa [← List.map_append] at this
theorem cutsT {es : ES} {i n a b : Nat} {A : List Str} {dA dB : DE} (hA : h[n]? = some (.lst (A.map EV.str))) (e1 : es[i]? = some (some (.ref n))) (ea : ∀ h, dA es h = .ok (.int (a : Int)) h) (eb : ∀ h, dB es h = .ok (.int (b : Int)) h) (hl : A.length < 40000) :
    ∃ m h', dOp fAdd (dSl fSl (dVar i) (dPart none) (dPart (some dA))) (dSl fSl (dVar i) (dPart (some dB)) (dPart none)) es h = .ok (.ref m) h' ∧ Fr [] h h' ∧ h'[m]? = some (.lst ((A.take a ++ A.drop b).map EV.str)) ∧ h.length ≤ m := by
  have p1 := preT hA a
  have g1 : Fr [] h (h ++ [EO.lst ((A.take a).map EV.str)]) := Fr.app _ _ _
  have n1 := newT h ((A.take a).map EV.str)
  have A1 := g1.at hA (by simp)
  have l1 : (h ++ [EO.lst ((A.take a).map EV.str)]).length = h.length + 1 := by simp
  generalize (h ++ [EO.lst ((A.take a).map EV.str)]) = h1 at *
  have p2 := sufT A1 b
  have g2 : Fr [] h1 (h1 ++ [EO.lst ((A.drop b).map EV.str)]) := Fr.app _ _ _
  have n2 := newT h1 ((A.drop b).map EV.str)
  have m2 := g2.at n1 (by simp)
  have l2 : (h1 ++ [EO.lst ((A.drop b).map EV.str)]).length = h1.length + 1 := by simp
  generalize (h1 ++ [EO.lst ((A.drop b).map EV.str)]) = h2 at *
  have c3 := catT m2 n2 (by rw [List.length_take, List.length_drop]; omega)
  refine ⟨h2.length, _, ?_, (g1.trans g2).trans (Fr.app _ _ _), newT h2 _, by omega⟩
  simp only [ap_op, ap_sl, ap_var, e1, gV_some, bind_ok, ap_kSl, ap_part0, ap_kSl2, ap_part, ea, eb, ap_kPart, ap_kSl3, p1, p2, ap_kOp, ap_kOp2, c3]
theorem turnT {es : ES} {i n a b : Nat} {A : List Str} {dA dB : DE} (hA : h[n]? = some (.lst (A.map EV.str))) (e1 : es[i]? = some (some (.ref n))) (ea : ∀ h, dA es h = .ok (.int (a : Int)) h) (eb : ∀ h, dB es h = .ok (.int (b : Int)) h) (hl : A.length < 40000) :
    ∃ m h', dOp fAdd (dSl fSl (dVar i) (dPart (some dA)) (dPart none)) (dSl fSl (dVar i) (dPart none) (dPart (some dB))) es h = .ok (.ref m) h' ∧ Fr [] h h' ∧ h'[m]? = some (.lst ((A.drop a ++ A.take b).map EV.str)) ∧ h.length ≤ m := by
  have p1 := sufT hA a
  have g1 : Fr [] h (h ++ [EO.lst ((A.drop a).map EV.str)]) := Fr.app _ _ _
  have n1 := newT h ((A.drop a).map EV.str)
  have A1 := g1.at hA (by simp)
  have l1 : (h ++ [EO.lst ((A.drop a).map EV.str)]).length = h.length + 1 := by simp
  generalize (h ++ [EO.lst ((A.drop a).map EV.str)]) = h1 at *
  have p2 := preT A1 b
  have g2 : Fr [] h1 (h1 ++ [EO.lst ((A.take b).map EV.str)]) := Fr.app _ _ _
  have n2 := newT h1 ((A.take b).map EV.str)
  have m2 := g2.at n1 (by simp)
  have l2 : (h1 ++ [EO.lst ((A.take b).map EV.str)]).length = h1.length + 1 := by simp
  generalize (h1 ++ [EO.lst ((A.take b).map EV.str)]) = h2 at *
  have c3 := catT m2 n2 (by rw [List.length_take, List.length_drop]; omega)
  refine ⟨h2.length, _, ?_, (g1.trans g2).trans (Fr.app _ _ _), newT h2 _, by omega⟩
  simp only [ap_op, ap_sl, ap_var, e1, gV_some, bind_ok, ap_kSl, ap_part0, ap_kSl2, ap_part, ea, eb, ap_kPart, ap_kSl3, p1, p2, ap_kOp, ap_kOp2, c3]
theorem wl_mid (A : List Str) (a : Nat) (X : List Str) : Wl ((A.take a ++ X ++ A.drop (a + 1)).map tl) ≤ Wl (A.map tl) + Wl (X.map tl) := by
  rw [List.map_append, List.map_append, wl_app, wl_app, List.map_take, List.map_drop]
  have h1 := wl_take (A.map tl) a
  have h2 := wl_drop_le (A.map tl) a
  omega
theorem wl_two (A : List Str) (a b : Nat) : Wl ((A.take a ++ A.drop b).map tl) ≤ 2 * Wl (A.map tl) := by
  rw [List.map_append, wl_app, List.map_take, List.map_drop]
  have h1 := wl_take (A.map tl) a
  have h2 := wl_take (A.map tl) b
  omega
theorem wl_two' (A : List Str) (a b : Nat) : Wl ((A.drop a ++ A.take b).map tl) ≤ 2 * Wl (A.map tl) := by
  rw [List.map_append, wl_app, List.map_take, List.map_drop]
  have h1 := wl_take (A.map tl) a
  have h2 := wl_take (A.map tl) b
  omega
theorem asc_parts {A B : List Str} {M : Nat} (hA : ∀ p ∈ A, Tz M p) (hB : ∀ p ∈ B, p ∈ A) : ∀ p ∈ B, Asc (tl p) := fun p hp => (hA p (hB p hp)).1
theorem mem_td {A : List Str} {a b : Nat} {p : Str} (h : p ∈ A.take a ++ A.drop b) : p ∈ A := (List.mem_append.mp h).elim List.mem_of_mem_take List.mem_of_mem_drop
theorem mem_dt {A : List Str} {a b : Nat} {p : Str} (h : p ∈ A.drop a ++ A.take b) : p ∈ A := (List.mem_append.mp h).elim List.mem_of_mem_drop List.mem_of_mem_take
theorem sp4 {w k : Nat} {x3 x4 x5 : Option EV} {n : Nat} {rows : List Str} (hA : h[n]? = some (.lst (rows.map EV.str))) (Tr : ∀ p ∈ rows, Tz L p) (hw : Wl (rows.map tl) ≤ L + 1) (hl : L ≤ 9990) (w3 : 3 ≤ w) (w6 : w < 6) : ∃ t' h', dSM1 mJoin (dC (.str "\n")) (dOp fIx (dLst (dCons (dOp fAdd (dSl fSl (dVar 6) (dPart none) (dPart (some (dVar 7)))) (dSl fSl (dVar 6) (dPart (some (dOp fAdd (dVar 7) (dC (.int 1))))) (dPart none))) (dCons (dOp fAdd (dSl fSl (dVar 6) (dPart none) (dPart (some (dOp fAdd (dVar 7) (dC (.int 1)))))) (dSl fSl (dVar 6) (dPart (some (dVar 7))) (dPart none))) (dCons (dOp fAdd (dSl fSl (dVar 6) (dPart (some (dVar 7))) (dPart none)) (dSl fSl (dVar 6) (dPart none) (dPart (some (dVar 7))))) dNil)))) (dOp fSub (dVar 2) (dC (.int 3)))) (S11 s t (some (.int (w : Int))) x3 x4 x5 (some (.ref n)) (some (.int (k : Int))) none none none) h = .ok (.str t') h' ∧ Tz (2 * (L + 1)) t' ∧ Fr [] h h' := by
  have hlen : rows.length < 40000 := by
    have := wl_len (rows.map tl)
    rw [List.length_map] at this
    omega
  generalize eS : S11 s t (some (.int (w : Int))) x3 x4 x5 (some (.ref n)) (some (.int (k : Int))) none none none = es
  have v6 : es[6]? = some (some (.ref n)) := by rw [← eS]; rfl
  have v7 : ∀ h, dVar 7 es h = .ok (.int (k : Int)) h := fun h => by rw [← eS]; simp
  have v71 : ∀ h, (dOp fAdd (dVar 7) (dC (.int 1))) es h = .ok (.int ((k + 1 : Nat) : Int)) h := fun h => by rw [← eS]; simp
  have v2 : ∀ h, dVar 2 es h = .ok (.int (w : Int)) h := fun h => by rw [← eS]; simp
  obtain ⟨m1, h1, e1, g1, k1, l1⟩ := cutsT (i := 6) hA v6 v7 v71 hlen
  have A1 := g1.at hA (by simp)
  obtain ⟨m2, h2, e2, g2, k2, l2⟩ := cutsT (i := 6) A1 v6 v71 v7 hlen
  have A2 := g2.at A1 (by simp)
  obtain ⟨m3, h3, e3, g3, k3, l3⟩ := turnT (i := 6) A2 v6 v7 v7 hlen
  have g4 : Fr [] h3 (h3 ++ [EO.lst [.ref m1, .ref m2, .ref m3]]) := Fr.app _ _ _
  have n4 : lstAt (h3 ++ [EO.lst [.ref m1, .ref m2, .ref m3]]) h3.length = some [.ref m1, .ref m2, .ref m3] := lstAt_new
  have k1 := (g4.at (g3.at (g2.at k1 (by simp)) (by simp)) (by simp))
  have k2 := g4.at (g3.at k2 (by simp)) (by simp)
  have k3 := g4.at k3 (by simp)
  have F4 := ((g1.trans g2).trans g3).trans g4
  have ll : dLst (dCons (dOp fAdd (dSl fSl (dVar 6) (dPart none) (dPart (some (dVar 7)))) (dSl fSl (dVar 6) (dPart (some (dOp fAdd (dVar 7) (dC (.int 1))))) (dPart none))) (dCons (dOp fAdd (dSl fSl (dVar 6) (dPart none) (dPart (some (dOp fAdd (dVar 7) (dC (.int 1)))))) (dSl fSl (dVar 6) (dPart (some (dVar 7))) (dPart none))) (dCons (dOp fAdd (dSl fSl (dVar 6) (dPart (some (dVar 7))) (dPart none)) (dSl fSl (dVar 6) (dPart none) (dPart (some (dVar 7))))) dNil))) es h = .ok (.ref h3.length) (h3 ++ [EO.lst [.ref m1, .ref m2, .ref m3]]) := by
    rw [ap_lst, ap_cons, e1]
    simp only [bind_ok, ap_kCons]
    rw [ap_cons, e2]
    simp only [bind_ok, ap_kCons]
    rw [ap_cons, e3]
    simp only [bind_ok, ap_kCons, ap_nil, ap_kCons2, ap_kLst, List.length_cons, List.length_nil, Nat.zero_add, Nat.reduceAdd, Nat.reduceLeDiff, if_true]
  generalize (h3 ++ [EO.lst [.ref m1, .ref m2, .ref m3]]) = h4 at *
  obtain ⟨v, hv, ev⟩ := pickE n4 (r := (w : Int) - 3) (by omega) (by simp; omega)
  have hnl : Sep nl := .inr rfl
  have fin : ∀ (m : Nat) (B : List Str), h4[m]? = some (.lst (B.map EV.str)) → (∀ p ∈ B, p ∈ rows) → Wl (B.map tl) ≤ 2 * Wl (rows.map tl) → v = .ref m → ∃ t' h', dSM1 mJoin (dC (.str "\n")) (dOp fIx (dLst (dCons (dOp fAdd (dSl fSl (dVar 6) (dPart none) (dPart (some (dVar 7)))) (dSl fSl (dVar 6) (dPart (some (dOp fAdd (dVar 7) (dC (.int 1))))) (dPart none))) (dCons (dOp fAdd (dSl fSl (dVar 6) (dPart none) (dPart (some (dOp fAdd (dVar 7) (dC (.int 1)))))) (dSl fSl (dVar 6) (dPart (some (dVar 7))) (dPart none))) (dCons (dOp fAdd (dSl fSl (dVar 6) (dPart (some (dVar 7))) (dPart none)) (dSl fSl (dVar 6) (dPart none) (dPart (some (dVar 7))))) dNil)))) (dOp fSub (dVar 2) (dC (.int 3)))) es h = .ok (.str t') h' ∧ Tz (2 * (L + 1)) t' ∧ Fr [] h h' := by
    intro m B hB sub wB ev'
    have mj := m_joinT (h := h4) hnl (lstAt_of hB) (by omega)
    have mj : mJoin (.str "\n") [.ref m] h4 = _ := mj
    refine ⟨_, h4, ?_, join_tx hnl (asc_parts Tr sub) (Nat.le_trans wB (by omega)), F4⟩
    rw [ap_sm1, ap_c]
    rw [bind_ok, ap_kSM1, ap_op, ll]
    simp only [bind_ok, ap_op, v2, ap_kOp, ap_c, ap_kOp2, f_sub, ev, ev', ap_kSM1b, mj]
  simp only [List.mem_cons, List.not_mem_nil, or_false] at hv
  rcases hv with rfl | rfl | rfl
  · exact fin m1 _ k1 (fun p hp => mem_td hp) (wl_two _ _ _) rfl
  · exact fin m2 _ k2 (fun p hp => mem_td hp) (wl_two _ _ _) rfl
  · exact fin m3 _ k3 (fun p hp => mem_dt hp) (wl_two' _ _ _) rfl
end
end K14
set_option Elab.async false
set_option linter.all false
set_option maxRecDepth 100000
set_option maxHeartbeats 4000000
namespace K14
open PySem L2 EE LW TL
def oddS : List Str := ["", "0", "00", "07", "99999", "100000", "-1", "-", "write", "settle", "Send", "tie", "untie", "day", "days"]
theorem oddS_ok : ∀ p ∈ oddS, (tl p).length ≤ 6 ∧ (tl p).all (fun c => decide (c < 128)) = true := by decide +kernel
theorem odd_tx {p : Str} (h : p ∈ oddS) : Tz 6 p := by
  obtain ⟨a, b⟩ := oddS_ok p h
  exact ⟨fun c hc => by simpa using List.all_eq_true.mp b c hc, a⟩
section
variable {ns : List Int} {h : EH} {s : Nat} {t : Str} {L : Nat}
theorem sp5 {w j n o : Nat} {W : List Str} {x3 x4 x5 x6 x7 : Option EV} (hs : St ns h s) (hA : h[n]? = some (.lst (W.map EV.str))) (hn : n ≠ s) (hO : h[o]? = some (.lst (oddS.map EV.str))) (ho : o ≠ s) (hj : j < W.length) (TW : ∀ p ∈ W, Tz L p) (hw : Wl (W.map tl) ≤ L + 1) (hl : L ≤ 9990) (w6 : 6 ≤ w) (w9 : w < 9) :
    Tri (dAsg (dOp fAdd (dOp fAdd (dSl fSl (dVar 8) (dPart none) (dPart (some (dVar 9)))) (dOp fIx (dLst (dCons (dLst dNil) (dCons (dOp fMul (dLst (dCons (dOp fIx (dVar 8) (dVar 9)) dNil)) (dC (.int 2))) (dCons (dLst (dCons (dOp fIx (dVar 10) (dCall LW.m__law_drawn (dCons (dVar 0) (dCons (dC (.int 15)) dNil)))) dNil)) dNil)))) (dOp fSub (dVar 2) (dC (.int 6))))) (dSl fSl (dVar 8) (dPart (some (dOp fAdd (dVar 9) (dC (.int 1))))) (dPart none))) (dName 8) (S11 s t (some (.int (w : Int))) x3 x4 x5 x6 x7 (some (.ref n)) (some (.int (j : Int))) (some (.ref o))) h)
    fun f h' => ∃ (m : Nat) (V : List Str), h'[m]? = some (.lst (V.map EV.str)) ∧ (∀ p ∈ V, Asc (tl p)) ∧ Wl (V.map tl) ≤ 3 * L + 11 ∧ St ns h' s ∧ Fr [s] h h' ∧ f = .nx (S11 s t (some (.int (w : Int))) x3 x4 x5 x6 x7 (some (.ref m)) (some (.int (j : Int))) (some (.ref o))) := by
  have hsl := hs.lt
  have hWl : W.length < 40000 := by
    have := wl_len (W.map tl)
    rw [List.length_map] at this
    omega
  obtain ⟨x, hx⟩ : ∃ x, W[j]? = some x := ⟨_, List.getElem?_eq_getElem hj⟩
  have Tz' := TW x (List.mem_of_getElem? hx)
  try simp only [ap_seq, ap_asg, ap_call, ap_callX, ap_cons, ap_var, ap_c, ap_nil, ap_tup, ap_lst, ap_op, ap_cb, ap_ret, ap_drop, ap_ifS, ap_for, ap_B, ap_par, ap_name, ap_gtup, ap_gcons, ap_gnil, ap_kG, ap_itL, ap_itR1, ap_lc, ap_next, ap_un, ap_if, ap_sl, ap_part, ap_part0, ap_kPart, ap_kSl, ap_kSl2, ap_kSl3, ap_bm, ap_kBM2, ap_not, ap_kNot, List.getElem?_cons_zero, List.getElem?_cons_succ, gV_some, bind_ok, bind_er, ap_kCons, ap_kCons2, ap_kCall, ap_kTup, ap_kLst, ap_kOp, ap_kOp2, ap_kAsg, ap_kAsg2, ap_kRet, ap_kDrop, ap_kPar, ap_kB, ap_kIfS, ap_kIf, kSeq_nx, kSeq_rt, kDef_rt, kDef_nx, ap_kLc2, tri_bind, tri_noer, trx_bind, trx_noer, tri_ok, trx_ok, trx_er, List.set_cons_zero, List.set_cons_succ, List.length_cons, List.length_nil, Nat.zero_add, Nat.reduceAdd, Nat.reduceLeDiff, if_true, f_add, f_sub]
  have p1 := preT hA j
  have g1 : Fr [] h (h ++ [EO.lst ((W.take j).map EV.str)]) := Fr.app _ _ _
  have n1 := newT h ((W.take j).map EV.str)
  have l1 : (h ++ [EO.lst ((W.take j).map EV.str)]).length = h.length + 1 := by simp
  rw [p1]
  try simp only [ap_seq, ap_asg, ap_call, ap_callX, ap_cons, ap_var, ap_c, ap_nil, ap_tup, ap_lst, ap_op, ap_cb, ap_ret, ap_drop, ap_ifS, ap_for, ap_B, ap_par, ap_name, ap_gtup, ap_gcons, ap_gnil, ap_kG, ap_itL, ap_itR1, ap_lc, ap_next, ap_un, ap_if, ap_sl, ap_part, ap_part0, ap_kPart, ap_kSl, ap_kSl2, ap_kSl3, ap_bm, ap_kBM2, ap_not, ap_kNot, List.getElem?_cons_zero, List.getElem?_cons_succ, gV_some, bind_ok, bind_er, ap_kCons, ap_kCons2, ap_kCall, ap_kTup, ap_kLst, ap_kOp, ap_kOp2, ap_kAsg, ap_kAsg2, ap_kRet, ap_kDrop, ap_kPar, ap_kB, ap_kIfS, ap_kIf, kSeq_nx, kSeq_rt, kDef_rt, kDef_nx, ap_kLc2, tri_bind, tri_noer, trx_bind, trx_noer, tri_ok, trx_ok, trx_er, List.set_cons_zero, List.set_cons_succ, List.length_cons, List.length_nil, Nat.zero_add, Nat.reduceAdd, Nat.reduceLeDiff, if_true, f_add, f_sub]
  have A1 := g1.at hA (by simp)
  have O1 := g1.at hO (by simp)
  have s1 := hs.fr g1
  generalize (h ++ [EO.lst ((W.take j).map EV.str)]) = h1 at *
  have g2 : Fr [] h1 (h1 ++ [EO.lst []]) := Fr.app _ _ _
  have n2 := newT h1 []
  have l2 : (h1 ++ [EO.lst []]).length = h1.length + 1 := by simp
  have A2 := g2.at A1 (by simp)
  have O2 := g2.at O1 (by simp)
  have P2 := g2.at n1 (by simp)
  have s2 := s1.fr g2
  generalize (h1 ++ [EO.lst []]) = h2 at *
  have ix2 : fIx (.ref n) (.int (j : Int)) h2 = .ok (.str x) h2 := f_ixL _ (lstAt_of A2) j rfl (by rw [List.getElem?_map, hx]; rfl)
  rw [ix2]
  try simp only [ap_seq, ap_asg, ap_call, ap_callX, ap_cons, ap_var, ap_c, ap_nil, ap_tup, ap_lst, ap_op, ap_cb, ap_ret, ap_drop, ap_ifS, ap_for, ap_B, ap_par, ap_name, ap_gtup, ap_gcons, ap_gnil, ap_kG, ap_itL, ap_itR1, ap_lc, ap_next, ap_un, ap_if, ap_sl, ap_part, ap_part0, ap_kPart, ap_kSl, ap_kSl2, ap_kSl3, ap_bm, ap_kBM2, ap_not, ap_kNot, List.getElem?_cons_zero, List.getElem?_cons_succ, gV_some, bind_ok, bind_er, ap_kCons, ap_kCons2, ap_kCall, ap_kTup, ap_kLst, ap_kOp, ap_kOp2, ap_kAsg, ap_kAsg2, ap_kRet, ap_kDrop, ap_kPar, ap_kB, ap_kIfS, ap_kIf, kSeq_nx, kSeq_rt, kDef_rt, kDef_nx, ap_kLc2, tri_bind, tri_noer, trx_bind, trx_noer, tri_ok, trx_ok, trx_er, List.set_cons_zero, List.set_cons_succ, List.length_cons, List.length_nil, Nat.zero_add, Nat.reduceAdd, Nat.reduceLeDiff, if_true, f_add, f_sub]
  have g3 : Fr [] h2 (h2 ++ [EO.lst [.str x]]) := Fr.app _ _ _
  have n3 := newT h2 [.str x]
  have l3 : (h2 ++ [EO.lst [.str x]]).length = h2.length + 1 := by simp
  have A3 := g3.at A2 (by simp)
  have O3 := g3.at O2 (by simp)
  have P3 := g3.at P2 (by simp)
  have E3 := g3.at n2 (by simp)
  have s3 := s2.fr g3
  generalize (h2 ++ [EO.lst [.str x]]) = h3 at *
  have rp : fMul (.ref h2.length) (.int 2) h3 = .ok (.ref h3.length) (h3 ++ [.lst [.str x, .str x]]) := f_rep (i := 2) (mutAt_of n3) (by decide) (by decide) (by simp)
  rw [rp]
  try simp only [ap_seq, ap_asg, ap_call, ap_callX, ap_cons, ap_var, ap_c, ap_nil, ap_tup, ap_lst, ap_op, ap_cb, ap_ret, ap_drop, ap_ifS, ap_for, ap_B, ap_par, ap_name, ap_gtup, ap_gcons, ap_gnil, ap_kG, ap_itL, ap_itR1, ap_lc, ap_next, ap_un, ap_if, ap_sl, ap_part, ap_part0, ap_kPart, ap_kSl, ap_kSl2, ap_kSl3, ap_bm, ap_kBM2, ap_not, ap_kNot, List.getElem?_cons_zero, List.getElem?_cons_succ, gV_some, bind_ok, bind_er, ap_kCons, ap_kCons2, ap_kCall, ap_kTup, ap_kLst, ap_kOp, ap_kOp2, ap_kAsg, ap_kAsg2, ap_kRet, ap_kDrop, ap_kPar, ap_kB, ap_kIfS, ap_kIf, kSeq_nx, kSeq_rt, kDef_rt, kDef_nx, ap_kLc2, tri_bind, tri_noer, trx_bind, trx_noer, tri_ok, trx_ok, trx_er, List.set_cons_zero, List.set_cons_succ, List.length_cons, List.length_nil, Nat.zero_add, Nat.reduceAdd, Nat.reduceLeDiff, if_true, f_add, f_sub]
  have g4 : Fr [] h3 (h3 ++ [EO.lst [.str x, .str x]]) := Fr.app _ _ _
  have n4 := newT h3 [.str x, .str x]
  have l4 : (h3 ++ [EO.lst [.str x, .str x]]).length = h3.length + 1 := by simp
  have A4 := g4.at A3 (by simp)
  have O4 := g4.at O3 (by simp)
  have P4 := g4.at P3 (by simp)
  have E4 := g4.at E3 (by simp)
  have s4 := s3.fr g4
  generalize (h3 ++ [EO.lst [.str x, .str x]]) = h4 at *
  have F4 : Fr [] h h4 := ((g1.trans g2).trans g3).trans g4
  refine drawnF s4 (by decide) (by decide) fun r h5 r0 r1 s5 f5 l5 => ?_
  have ne1 : h.length ≠ s := by omega
  have ne2 : h1.length ≠ s := by omega
  have ne4 : h3.length ≠ s := by omega
  have A5 := f5.at A4 (by simpa using hn)
  have O5 := f5.at O4 (by simpa using ho)
  have P5 := f5.at P4 (by simpa using ne1)
  have E5 := f5.at E4 (by simpa using ne2)
  have D5 := f5.at n4 (by simpa using ne4)
  obtain ⟨v, hv, ev⟩ := pickE (lstAt_of O5) r0 (by simpa [oddS] using r1)
  obtain ⟨y, hy, rfl⟩ := List.mem_map.mp hv
  have Ty := odd_tx hy
  try simp only [ap_seq, ap_asg, ap_call, ap_callX, ap_cons, ap_var, ap_c, ap_nil, ap_tup, ap_lst, ap_op, ap_cb, ap_ret, ap_drop, ap_ifS, ap_for, ap_B, ap_par, ap_name, ap_gtup, ap_gcons, ap_gnil, ap_kG, ap_itL, ap_itR1, ap_lc, ap_next, ap_un, ap_if, ap_sl, ap_part, ap_part0, ap_kPart, ap_kSl, ap_kSl2, ap_kSl3, ap_bm, ap_kBM2, ap_not, ap_kNot, List.getElem?_cons_zero, List.getElem?_cons_succ, gV_some, bind_ok, bind_er, ap_kCons, ap_kCons2, ap_kCall, ap_kTup, ap_kLst, ap_kOp, ap_kOp2, ap_kAsg, ap_kAsg2, ap_kRet, ap_kDrop, ap_kPar, ap_kB, ap_kIfS, ap_kIf, kSeq_nx, kSeq_rt, kDef_rt, kDef_nx, ap_kLc2, tri_bind, tri_noer, trx_bind, trx_noer, tri_ok, trx_ok, trx_er, List.set_cons_zero, List.set_cons_succ, List.length_cons, List.length_nil, Nat.zero_add, Nat.reduceAdd, Nat.reduceLeDiff, if_true, f_add, f_sub]
  rw [ev]
  try simp only [ap_seq, ap_asg, ap_call, ap_callX, ap_cons, ap_var, ap_c, ap_nil, ap_tup, ap_lst, ap_op, ap_cb, ap_ret, ap_drop, ap_ifS, ap_for, ap_B, ap_par, ap_name, ap_gtup, ap_gcons, ap_gnil, ap_kG, ap_itL, ap_itR1, ap_lc, ap_next, ap_un, ap_if, ap_sl, ap_part, ap_part0, ap_kPart, ap_kSl, ap_kSl2, ap_kSl3, ap_bm, ap_kBM2, ap_not, ap_kNot, List.getElem?_cons_zero, List.getElem?_cons_succ, gV_some, bind_ok, bind_er, ap_kCons, ap_kCons2, ap_kCall, ap_kTup, ap_kLst, ap_kOp, ap_kOp2, ap_kAsg, ap_kAsg2, ap_kRet, ap_kDrop, ap_kPar, ap_kB, ap_kIfS, ap_kIf, kSeq_nx, kSeq_rt, kDef_rt, kDef_nx, ap_kLc2, tri_bind, tri_noer, trx_bind, trx_noer, tri_ok, trx_ok, trx_er, List.set_cons_zero, List.set_cons_succ, List.length_cons, List.length_nil, Nat.zero_add, Nat.reduceAdd, Nat.reduceLeDiff, if_true, f_add, f_sub]
  have g6 : Fr [] h5 (h5 ++ [EO.lst [.str y]]) := Fr.app _ _ _
  have n6 := newT h5 [.str y]
  have A6 := g6.at A5 (by simp)
  have P6 := g6.at P5 (by simp)
  have E6 := g6.at E5 (by simp)
  have D6 := g6.at D5 (by simp)
  have s6 := s5.fr g6
  generalize (h5 ++ [EO.lst [.str y]]) = h6 at *
  have g7 : Fr [] h6 (h6 ++ [EO.lst [.ref h1.length, .ref h3.length, .ref h5.length]]) := Fr.app _ _ _
  have n7 : lstAt (h6 ++ [EO.lst [.ref h1.length, .ref h3.length, .ref h5.length]]) h6.length = some [.ref h1.length, .ref h3.length, .ref h5.length] := lstAt_new
  have A7 := g7.at A6 (by simp)
  have P7 := g7.at P6 (by simp)
  have E7 := g7.at E6 (by simp)
  have D7 := g7.at D6 (by simp)
  have C7 := g7.at n6 (by simp)
  have s7 := s6.fr g7
  generalize (h6 ++ [EO.lst [.ref h1.length, .ref h3.length, .ref h5.length]]) = h7 at *
  have F7 : Fr [s] h h7 := ((F4.weak (by simp) : Fr [s] h h4).trans f5).trans ((g6.trans g7).weak (by simp))
  obtain ⟨v, hv, ev⟩ := pickE n7 (r := (w : Int) - 6) (by omega) (by simp; omega)
  rw [ev]
  try simp only [ap_seq, ap_asg, ap_call, ap_callX, ap_cons, ap_var, ap_c, ap_nil, ap_tup, ap_lst, ap_op, ap_cb, ap_ret, ap_drop, ap_ifS, ap_for, ap_B, ap_par, ap_name, ap_gtup, ap_gcons, ap_gnil, ap_kG, ap_itL, ap_itR1, ap_lc, ap_next, ap_un, ap_if, ap_sl, ap_part, ap_part0, ap_kPart, ap_kSl, ap_kSl2, ap_kSl3, ap_bm, ap_kBM2, ap_not, ap_kNot, List.getElem?_cons_zero, List.getElem?_cons_succ, gV_some, bind_ok, bind_er, ap_kCons, ap_kCons2, ap_kCall, ap_kTup, ap_kLst, ap_kOp, ap_kOp2, ap_kAsg, ap_kAsg2, ap_kRet, ap_kDrop, ap_kPar, ap_kB, ap_kIfS, ap_kIf, kSeq_nx, kSeq_rt, kDef_rt, kDef_nx, ap_kLc2, tri_bind, tri_noer, trx_bind, trx_noer, tri_ok, trx_ok, trx_er, List.set_cons_zero, List.set_cons_succ, List.length_cons, List.length_nil, Nat.zero_add, Nat.reduceAdd, Nat.reduceLeDiff, if_true, f_add, f_sub]
  obtain ⟨q, X, rfl, hX, aX, wX⟩ : ∃ (q : Nat) (X : List Str), v = .ref q ∧ h7[q]? = some (.lst (X.map EV.str)) ∧ (∀ p ∈ X, Tz (L + 6) p) ∧ Wl (X.map tl) ≤ 2 * L + 10 := by
    simp only [List.mem_cons, List.not_mem_nil, or_false] at hv
    rcases hv with rfl | rfl | rfl
    · exact ⟨_, [], rfl, E7, (fun p hp => by cases hp), by simp [Wl]⟩
    · refine ⟨_, [x, x], rfl, D7, fun p hp => ?_, ?_⟩
      · simp only [List.mem_cons, List.not_mem_nil, or_false, or_self] at hp
        rw [hp]
        exact Tz'.up (by omega)
      · have := Tz'.2
        simp only [Wl, List.map_cons, List.map_nil, List.sum_cons, List.sum_nil, List.length_cons, List.length_nil]
        omega
    · refine ⟨_, [y], rfl, C7, fun p hp => ?_, ?_⟩
      · rw [List.mem_singleton.mp hp]
        exact Ty.up (by omega)
      · have := Ty.2
        simp only [Wl, List.map_cons, List.map_nil, List.sum_cons, List.sum_nil, List.length_cons, List.length_nil]
        omega
  have lX : X.length ≤ 30000 := by
    have := wl_len (X.map tl)
    rw [List.length_map] at this
    omega
  have c8 := catT P7 hX (by rw [List.length_take]; omega)
  rw [c8]
  try simp only [ap_seq, ap_asg, ap_call, ap_callX, ap_cons, ap_var, ap_c, ap_nil, ap_tup, ap_lst, ap_op, ap_cb, ap_ret, ap_drop, ap_ifS, ap_for, ap_B, ap_par, ap_name, ap_gtup, ap_gcons, ap_gnil, ap_kG, ap_itL, ap_itR1, ap_lc, ap_next, ap_un, ap_if, ap_sl, ap_part, ap_part0, ap_kPart, ap_kSl, ap_kSl2, ap_kSl3, ap_bm, ap_kBM2, ap_not, ap_kNot, List.getElem?_cons_zero, List.getElem?_cons_succ, gV_some, bind_ok, bind_er, ap_kCons, ap_kCons2, ap_kCall, ap_kTup, ap_kLst, ap_kOp, ap_kOp2, ap_kAsg, ap_kAsg2, ap_kRet, ap_kDrop, ap_kPar, ap_kB, ap_kIfS, ap_kIf, kSeq_nx, kSeq_rt, kDef_rt, kDef_nx, ap_kLc2, tri_bind, tri_noer, trx_bind, trx_noer, tri_ok, trx_ok, trx_er, List.set_cons_zero, List.set_cons_succ, List.length_cons, List.length_nil, Nat.zero_add, Nat.reduceAdd, Nat.reduceLeDiff, if_true, f_add, f_sub]
  have g8 : Fr [] h7 (h7 ++ [EO.lst ((W.take j ++ X).map EV.str)]) := Fr.app _ _ _
  have n8 := newT h7 ((W.take j ++ X).map EV.str)
  have A8 := g8.at A7 (by simp)
  have s8 := s7.fr g8
  generalize (h7 ++ [EO.lst ((W.take j ++ X).map EV.str)]) = h8 at *
  have p9 := sufT A8 (j + 1)
  have p9 : fSl (.ref n) (some ((j : Int) + 1)) none h8 = _ := p9
  rw [p9]
  try simp only [ap_seq, ap_asg, ap_call, ap_callX, ap_cons, ap_var, ap_c, ap_nil, ap_tup, ap_lst, ap_op, ap_cb, ap_ret, ap_drop, ap_ifS, ap_for, ap_B, ap_par, ap_name, ap_gtup, ap_gcons, ap_gnil, ap_kG, ap_itL, ap_itR1, ap_lc, ap_next, ap_un, ap_if, ap_sl, ap_part, ap_part0, ap_kPart, ap_kSl, ap_kSl2, ap_kSl3, ap_bm, ap_kBM2, ap_not, ap_kNot, List.getElem?_cons_zero, List.getElem?_cons_succ, gV_some, bind_ok, bind_er, ap_kCons, ap_kCons2, ap_kCall, ap_kTup, ap_kLst, ap_kOp, ap_kOp2, ap_kAsg, ap_kAsg2, ap_kRet, ap_kDrop, ap_kPar, ap_kB, ap_kIfS, ap_kIf, kSeq_nx, kSeq_rt, kDef_rt, kDef_nx, ap_kLc2, tri_bind, tri_noer, trx_bind, trx_noer, tri_ok, trx_ok, trx_er, List.set_cons_zero, List.set_cons_succ, List.length_cons, List.length_nil, Nat.zero_add, Nat.reduceAdd, Nat.reduceLeDiff, if_true, f_add, f_sub]
  have g9 : Fr [] h8 (h8 ++ [EO.lst ((W.drop (j + 1)).map EV.str)]) := Fr.app _ _ _
  have n9 := newT h8 ((W.drop (j + 1)).map EV.str)
  have P9 := g9.at n8 (by simp)
  have s9 := s8.fr g9
  generalize (h8 ++ [EO.lst ((W.drop (j + 1)).map EV.str)]) = h9 at *
  have c10 := catT P9 n9 (by rw [List.length_append, List.length_take, List.length_drop]; omega)
  rw [c10]
  try simp only [ap_seq, ap_asg, ap_call, ap_callX, ap_cons, ap_var, ap_c, ap_nil, ap_tup, ap_lst, ap_op, ap_cb, ap_ret, ap_drop, ap_ifS, ap_for, ap_B, ap_par, ap_name, ap_gtup, ap_gcons, ap_gnil, ap_kG, ap_itL, ap_itR1, ap_lc, ap_next, ap_un, ap_if, ap_sl, ap_part, ap_part0, ap_kPart, ap_kSl, ap_kSl2, ap_kSl3, ap_bm, ap_kBM2, ap_not, ap_kNot, List.getElem?_cons_zero, List.getElem?_cons_succ, gV_some, bind_ok, bind_er, ap_kCons, ap_kCons2, ap_kCall, ap_kTup, ap_kLst, ap_kOp, ap_kOp2, ap_kAsg, ap_kAsg2, ap_kRet, ap_kDrop, ap_kPar, ap_kB, ap_kIfS, ap_kIf, kSeq_nx, kSeq_rt, kDef_rt, kDef_nx, ap_kLc2, tri_bind, tri_noer, trx_bind, trx_noer, tri_ok, trx_ok, trx_er, List.set_cons_zero, List.set_cons_succ, List.length_cons, List.length_nil, Nat.zero_add, Nat.reduceAdd, Nat.reduceLeDiff, if_true, f_add, f_sub]
  refine ⟨h9.length, W.take j ++ X ++ W.drop (j + 1), newT h9 _, fun p hp => ?_, ?_, s9.fr (Fr.app _ _ _), F7.trans (((g8.trans g9).trans (Fr.app _ _ _)).weak (by simp)), rfl⟩
  · rcases List.mem_append.mp hp with hp | hp
    · rcases List.mem_append.mp hp with hp | hp
      · exact (TW p (List.mem_of_mem_take hp)).1
      · exact (aX p hp).1
    · exact (TW p (List.mem_of_mem_drop hp)).1
  · have := wl_mid W j X
    omega
theorem sp6 {n k m : Nat} {rows V : List Str} {x2 x3 x4 x5 x9 x10 : Option EV} (hA : h[n]? = some (.lst (rows.map EV.str))) (Tr : ∀ p ∈ rows, Tz L p) (hw : Wl (rows.map tl) ≤ L + 1) (hl : L ≤ 9990) (hV : h[m]? = some (.lst (V.map EV.str))) (aV : ∀ p ∈ V, Asc (tl p)) (wV : Wl (V.map tl) ≤ 3 * L + 11) :
    ∃ t' h', dSM1 mJoin (dC (.str "\n")) (dOp fAdd (dOp fAdd (dSl fSl (dVar 6) (dPart none) (dPart (some (dVar 7)))) (dLst (dCons (dSM1 mJoin (dC (.str " ")) (dVar 8)) dNil))) (dSl fSl (dVar 6) (dPart (some (dOp fAdd (dVar 7) (dC (.int 1))))) (dPart none))) (S11 s t x2 x3 x4 x5 (some (.ref n)) (some (.int (k : Int))) (some (.ref m)) x9 x10) h = .ok (.str t') h' ∧ Tz (4 * L + 13) t' ∧ Fr [] h h' := by
  have hlen : rows.length < 40000 := by
    have := wl_len (rows.map tl)
    rw [List.length_map] at this
    omega
  have hsp : Sep sp := .inl rfl
  have hnl : Sep nl := .inr rfl
  have Tn := join_tx hsp aV wV
  have p1 := preT hA k
  have g1 : Fr [] h (h ++ [EO.lst ((rows.take k).map EV.str)]) := Fr.app _ _ _
  have n1 := newT h ((rows.take k).map EV.str)
  have A1 := g1.at hA (by simp)
  have V1 := g1.at hV (by simp)
  generalize (h ++ [EO.lst ((rows.take k).map EV.str)]) = h1 at *
  have mj : mJoin (.str " ") [.ref m] h1 = .ok (.str (Txt.join sp V)) h1 := m_joinT hsp (lstAt_of V1) (by omega)
  generalize Txt.join sp V = z at *
  have g2 : Fr [] h1 (h1 ++ [EO.lst ([z].map EV.str)]) := Fr.app _ _ _
  have n2 := newT h1 ([z].map EV.str)
  have A2 := g2.at A1 (by simp)
  have P2 := g2.at n1 (by simp)
  have ll : dLst (dCons (dSM1 mJoin (dC (.str " ")) (dVar 8)) dNil) (S11 s t x2 x3 x4 x5 (some (.ref n)) (some (.int (k : Int))) (some (.ref m)) x9 x10) h1 = .ok (.ref h1.length) (h1 ++ [EO.lst ([z].map EV.str)]) := by
    simp only [ap_lst, ap_cons, ap_sm1, ap_c, bind_ok, ap_kSM1, ap_var, List.getElem?_cons_succ, List.getElem?_cons_zero, gV_some, ap_kSM1b, mj, ap_kCons, ap_nil, ap_kCons2, ap_kLst, List.length_cons, List.length_nil, Nat.zero_add, Nat.reduceLeDiff, if_true, List.map_cons, List.map_nil]
  generalize (h1 ++ [EO.lst ([z].map EV.str)]) = h2 at *
  have c3 := catT P2 n2 (by rw [List.length_take]; simp; omega)
  have g3 : Fr [] h2 (h2 ++ [EO.lst ((rows.take k ++ [z]).map EV.str)]) := Fr.app _ _ _
  have n3 := newT h2 ((rows.take k ++ [z]).map EV.str)
  have A3 := g3.at A2 (by simp)
  generalize (h2 ++ [EO.lst ((rows.take k ++ [z]).map EV.str)]) = h3 at *
  have p4 := sufT A3 (k + 1)
  have p4 : fSl (.ref n) (some ((k : Int) + 1)) none h3 = _ := p4
  have g4 : Fr [] h3 (h3 ++ [EO.lst ((rows.drop (k + 1)).map EV.str)]) := Fr.app _ _ _
  have n4 := newT h3 ((rows.drop (k + 1)).map EV.str)
  have P4 := g4.at n3 (by simp)
  generalize (h3 ++ [EO.lst ((rows.drop (k + 1)).map EV.str)]) = h4 at *
  have c5 := catT P4 n4 (by rw [List.length_append, List.length_take, List.length_drop]; simp; omega)
  have n5 := newT h4 ((rows.take k ++ [z] ++ rows.drop (k + 1)).map EV.str)
  have g5 : Fr [] h4 (h4 ++ [EO.lst ((rows.take k ++ [z] ++ rows.drop (k + 1)).map EV.str)]) := Fr.app _ _ _
  generalize (h4 ++ [EO.lst ((rows.take k ++ [z] ++ rows.drop (k + 1)).map EV.str)]) = h5 at *
  have w1 : Wl ((rows.take k ++ [z] ++ rows.drop (k + 1)).map tl) ≤ 4 * L + 13 := by
    have := wl_mid rows k [z]
    have wz : Wl ([z].map tl) ≤ 3 * L + 12 := by
      have := Tn.2
      simp only [Wl, List.map_cons, List.map_nil, List.sum_cons, List.sum_nil, List.length_cons, List.length_nil]
      omega
    omega
  have mj2 : mJoin (.str "\n") [.ref h4.length] h5 = _ := m_joinT hnl (lstAt_of n5) (by omega)
  refine ⟨_, h5, ?_, join_tx hnl (fun p hp => ?_) w1, (((g1.trans g2).trans g3).trans g4).trans g5⟩
  · rw [ap_sm1, ap_c, bind_ok, ap_kSM1, ap_op, ap_op]
    simp only [ap_sl, ap_var, List.getElem?_cons_succ, List.getElem?_cons_zero, gV_some, bind_ok, ap_kSl, ap_part0, ap_kSl2, ap_part, ap_kPart, ap_kSl3, p1, ap_kOp, ll, ap_kOp2, c3, ap_op, ap_c, f_add, p4, c5, ap_kSM1b, mj2]
    rfl
  · rcases List.mem_append.mp hp with hp | hp
    · rcases List.mem_append.mp hp with hp | hp
      · exact (Tr p (List.mem_of_mem_take hp)).1
      · rw [List.mem_singleton.mp hp]
        exact Tn.1
    · exact (Tr p (List.mem_of_mem_drop hp)).1
end
end K14
set_option Elab.async false
set_option linter.all false
set_option maxRecDepth 100000
set_option maxHeartbeats 4000000
namespace K14
open PySem L2 EE LW TL
section
variable {ns : List Int} {h : EH} {s : Nat} {t : Str} {L : Nat}
theorem spoilt_ok (hs : St ns h s) (T : Tz L t) (hl : L ≤ 9990) {Q : EV → EH → Prop} (q : ∀ t' h', Tz (4 * L + 13) t' → St ns h' s → Fr [s] h h' → Q (.str t') h') : Tri (m__law_spoilt [.ref s, .str t] h) Q := by
  rw [u__law_spoilt, tri_bind]
  unfold b__law_spoilt
  have hsl := hs.lt
  refine seq_step (sp1 hs T hl) ?_
  rintro f h1 ⟨w, a, w9, s1, f1, rfl⟩
  rw [kSeq_nx]
  have e2 : dAsg (dC (.str "0123456789 -\nabcdefghijklmnopqrstuvwxyz!#$&'()*+,./:;<=>?@ABCDEFGHIJKLMNOPQRSTUVWXYZ[]^_{|}~")) (dName 4) (S11 s t (some (.int (w : Int))) (some (.int (a : Int))) none none none none none none none) h1 = .ok (.nx (S11 s t (some (.int (w : Int))) (some (.int (a : Int))) (some (.str signS)) none none none none none none)) h1 := rfl
  rw [ap_seq, e2, bind_ok, kSeq_nx]
  refine seq_step (sp2 s1) ?_
  rintro f h2 ⟨c, hc, s2, f2, rfl⟩
  rw [kSeq_nx]
  have F2 := f1.trans f2
  generalize some (EV.str signS) = x4
  -- signs
  have t3 : (dB (dOp fLt (dVar 2) (dC (.int 3)))) (S11 s t (some (.int (w : Int))) (some (.int (a : Int))) x4 (some (sg c)) none none none none none) h2 = .ok (decide (w < 3)) h2 := by
    have e : decide ((w : Int) < 3) = decide (w < 3) := decide_eq_decide.mpr (by omega)
    simp only [ap_B, ap_op, ap_var, List.getElem?_cons_succ, List.getElem?_cons_zero, gV_some, bind_ok, ap_kOp, ap_c, ap_kOp2, f_lt, e, ap_kB]
  rw [ap_seq, ap_ifS, t3]
  simp only [bind_ok, ap_kIfS]
  by_cases w3 : w < 3
  · obtain ⟨t', h3, e3, T3, g3⟩ := sp3 (s := s) (a := a) (x4 := x4) (h := h2) T hl w3 hc
    rw [decide_eq_true w3]
    simp only [if_true, ap_ret, e3, bind_ok, ap_kRet, kSeq_rt, tri_ok, kDef_rt]
    exact q t' h3 (T3.up (by omega)) (s2.fr g3) (F2.trans (g3.weak (by simp)))
  rw [decide_eq_false w3]
  simp only [Bool.false_eq_true, if_false, ap_next, bind_ok, kSeq_nx]
  -- rows
  have hnl : Sep nl := .inr rfl
  have hsp : Sep sp := .inl rfl
  obtain ⟨r1, r2, r3, r4⟩ := split_tx hnl T
  have ms : mSplit (.str t) [.str "\n"] h2 = _ := m_splitT hnl T (by omega)
  have n3 := newT h2 ((Txt.split t nl).map EV.str)
  have g3 : Fr [] h2 (h2 ++ [EO.lst ((Txt.split t nl).map EV.str)]) := Fr.app _ _ _
  have s3 := s2.fr g3
  have E3 : dAsg (dSM1 mSplit (dVar 1) (dC (.str "\n"))) (dName 6) (S11 s t (some (.int (w : Int))) (some (.int (a : Int))) x4 (some (sg c)) none none none none none) h2 = .ok (.nx (S11 s t (some (.int (w : Int))) (some (.int (a : Int))) x4 (some (sg c)) (some (.ref h2.length)) none none none none)) (h2 ++ [EO.lst ((Txt.split t nl).map EV.str)]) := by
    simp only [ap_asg, ap_sm1, ap_var, List.getElem?_cons_succ, List.getElem?_cons_zero, gV_some, bind_ok, ap_kSM1, ap_c, ap_kSM1b, ms, ap_kAsg, ap_name, ap_kAsg2, List.set_cons_succ, List.set_cons_zero]
    rfl
  rw [ap_seq, E3, bind_ok, kSeq_nx]
  have nR : h2.length ≠ s := by have := s2.lt; omega
  have nR0 : h2.length ≠ 0 := by have := s2.lt; omega
  generalize (h2 ++ [EO.lst ((Txt.split t nl).map EV.str)]) = h3 at *
  generalize h2.length = R at *
  generalize Txt.split t nl = rows at *
  have F3 := F2.trans (g3.weak (by simp))
  have rp : 0 < rows.length := List.length_pos_iff.mpr r3
  refine seq_step (P := fun f h' => ∃ k : Nat, k < rows.length ∧ St ns h' s ∧ Fr [s] h3 h' ∧ f = .nx (S11 s t (some (.int (w : Int))) (some (.int (a : Int))) x4 (some (sg c)) (some (.ref R)) (some (.int (k : Int))) none none none)) ?_ ?_
  · have fl := f_len (lstAt_of n3)
    rw [List.length_map] at fl
    try simp only [ap_seq, ap_asg, ap_call, ap_callX, ap_cons, ap_var, ap_c, ap_nil, ap_tup, ap_lst, ap_op, ap_cb, ap_ret, ap_drop, ap_ifS, ap_for, ap_B, ap_par, ap_name, ap_gtup, ap_gcons, ap_gnil, ap_kG, ap_itL, ap_itR1, ap_lc, ap_next, ap_un, ap_if, ap_sl, ap_part, ap_part0, ap_kPart, ap_kSl, ap_kSl2, ap_kSl3, ap_bm, ap_kBM2, ap_not, ap_kNot, List.getElem?_cons_zero, List.getElem?_cons_succ, gV_some, bind_ok, bind_er, ap_kCons, ap_kCons2, ap_kCall, ap_kTup, ap_kLst, ap_kOp, ap_kOp2, ap_kAsg, ap_kAsg2, ap_kRet, ap_kDrop, ap_kPar, ap_kB, ap_kIfS, ap_kIf, kSeq_nx, kSeq_rt, kDef_rt, kDef_nx, ap_kLc2, tri_bind, tri_noer, trx_bind, trx_noer, tri_ok, trx_ok, trx_er, List.set_cons_zero, List.set_cons_succ, List.length_cons, List.length_nil, Nat.zero_add, Nat.reduceAdd, Nat.reduceLeDiff, if_true, f_add, f_sub]
    rw [fl]
    try simp only [ap_seq, ap_asg, ap_call, ap_callX, ap_cons, ap_var, ap_c, ap_nil, ap_tup, ap_lst, ap_op, ap_cb, ap_ret, ap_drop, ap_ifS, ap_for, ap_B, ap_par, ap_name, ap_gtup, ap_gcons, ap_gnil, ap_kG, ap_itL, ap_itR1, ap_lc, ap_next, ap_un, ap_if, ap_sl, ap_part, ap_part0, ap_kPart, ap_kSl, ap_kSl2, ap_kSl3, ap_bm, ap_kBM2, ap_not, ap_kNot, List.getElem?_cons_zero, List.getElem?_cons_succ, gV_some, bind_ok, bind_er, ap_kCons, ap_kCons2, ap_kCall, ap_kTup, ap_kLst, ap_kOp, ap_kOp2, ap_kAsg, ap_kAsg2, ap_kRet, ap_kDrop, ap_kPar, ap_kB, ap_kIfS, ap_kIf, kSeq_nx, kSeq_rt, kDef_rt, kDef_nx, ap_kLc2, tri_bind, tri_noer, trx_bind, trx_noer, tri_ok, trx_ok, trx_er, List.set_cons_zero, List.set_cons_succ, List.length_cons, List.length_nil, Nat.zero_add, Nat.reduceAdd, Nat.reduceLeDiff, if_true, f_add, f_sub]
    refine drawnF s3 (by omega) (by omega) fun k h4 k0 k1 s4 f4 _ => ?_
    obtain ⟨k, rfl⟩ := Int.eq_ofNat_of_zero_le k0
    try simp only [ap_seq, ap_asg, ap_call, ap_callX, ap_cons, ap_var, ap_c, ap_nil, ap_tup, ap_lst, ap_op, ap_cb, ap_ret, ap_drop, ap_ifS, ap_for, ap_B, ap_par, ap_name, ap_gtup, ap_gcons, ap_gnil, ap_kG, ap_itL, ap_itR1, ap_lc, ap_next, ap_un, ap_if, ap_sl, ap_part, ap_part0, ap_kPart, ap_kSl, ap_kSl2, ap_kSl3, ap_bm, ap_kBM2, ap_not, ap_kNot, List.getElem?_cons_zero, List.getElem?_cons_succ, gV_some, bind_ok, bind_er, ap_kCons, ap_kCons2, ap_kCall, ap_kTup, ap_kLst, ap_kOp, ap_kOp2, ap_kAsg, ap_kAsg2, ap_kRet, ap_kDrop, ap_kPar, ap_kB, ap_kIfS, ap_kIf, kSeq_nx, kSeq_rt, kDef_rt, kDef_nx, ap_kLc2, tri_bind, tri_noer, trx_bind, trx_noer, tri_ok, trx_ok, trx_er, List.set_cons_zero, List.set_cons_succ, List.length_cons, List.length_nil, Nat.zero_add, Nat.reduceAdd, Nat.reduceLeDiff, if_true, f_add, f_sub]
    exact ⟨k, by omega, s4, f4, rfl⟩
  rintro f h4 ⟨k, hk, s4, f4, rfl⟩
  rw [kSeq_nx]
  have R4 := f4.at n3 (by simpa using nR)
  have F4 := F3.trans f4
  have t6 : (dB (dOp fLt (dVar 2) (dC (.int 6)))) (S11 s t (some (.int (w : Int))) (some (.int (a : Int))) x4 (some (sg c)) (some (.ref R)) (some (.int (k : Int))) none none none) h4 = .ok (decide (w < 6)) h4 := by
    have e : decide ((w : Int) < 6) = decide (w < 6) := decide_eq_decide.mpr (by omega)
    simp only [ap_B, ap_op, ap_var, List.getElem?_cons_succ, List.getElem?_cons_zero, gV_some, bind_ok, ap_kOp, ap_c, ap_kOp2, f_lt, e, ap_kB]
  rw [ap_seq, ap_ifS, t6]
  simp only [bind_ok, ap_kIfS]
  by_cases w6 : w < 6
  · obtain ⟨t', h5, e5, T5, g5⟩ := sp4 (s := s) (t := t) (k := k) (x3 := some (.int (a : Int))) (x4 := x4) (x5 := some (sg c)) R4 r1 r2 hl (by omega) w6
    rw [decide_eq_true w6]
    simp only [if_true, ap_ret, e5, bind_ok, ap_kRet, kSeq_rt, tri_ok, kDef_rt]
    exact q t' h5 (T5.up (by omega)) (s4.fr g5) (F4.trans (g5.weak (by simp)))
  rw [decide_eq_false w6]
  simp only [Bool.false_eq_true, if_false, ap_next, bind_ok, kSeq_nx]
  -- words
  obtain ⟨r, hr⟩ : ∃ r, rows[k]? = some r := ⟨_, List.getElem?_eq_getElem hk⟩
  have Tr := r1 r (List.mem_of_getElem? hr)
  obtain ⟨v1, v2, v3, v4⟩ := split_tx hsp Tr
  have ix : fIx (.ref R) (.int (k : Int)) h4 = .ok (.str r) h4 := f_ixL _ (lstAt_of R4) k rfl (by rw [List.getElem?_map, hr]; rfl)
  have ms : mSplit (.str r) [.str " "] h4 = _ := m_splitT hsp Tr (by omega)
  have n5 := newT h4 ((Txt.split r sp).map EV.str)
  have g5 : Fr [] h4 (h4 ++ [EO.lst ((Txt.split r sp).map EV.str)]) := Fr.app _ _ _
  have s5 := s4.fr g5
  have R5 := g5.at R4 (by simp)
  have E5 : dAsg (dSM1 mSplit (dOp fIx (dVar 6) (dVar 7)) (dC (.str " "))) (dName 8) (S11 s t (some (.int (w : Int))) (some (.int (a : Int))) x4 (some (sg c)) (some (.ref R)) (some (.int (k : Int))) none none none) h4 = .ok (.nx (S11 s t (some (.int (w : Int))) (some (.int (a : Int))) x4 (some (sg c)) (some (.ref R)) (some (.int (k : Int))) (some (.ref h4.length)) none none)) (h4 ++ [EO.lst ((Txt.split r sp).map EV.str)]) := by
    simp only [ap_asg, ap_sm1, ap_op, ap_var, List.getElem?_cons_succ, List.getElem?_cons_zero, gV_some, bind_ok, ap_kOp, ap_kOp2, ix, ap_kSM1, ap_c, ap_kSM1b, ms, ap_kAsg, ap_name, ap_kAsg2, List.set_cons_succ, List.set_cons_zero]
    rfl
  rw [ap_seq, E5, bind_ok, kSeq_nx]
  have nW : h4.length ≠ s := by have := s4.lt; omega
  generalize (h4 ++ [EO.lst ((Txt.split r sp).map EV.str)]) = h5 at *
  generalize h4.length = N at *
  generalize Txt.split r sp = words at *
  have F5 := F4.trans (g5.weak (by simp))
  have wp : 0 < words.length := List.length_pos_iff.mpr v3
  refine seq_step (P := fun f h' => ∃ j : Nat, j < words.length ∧ St ns h' s ∧ Fr [s] h5 h' ∧ f = .nx (S11 s t (some (.int (w : Int))) (some (.int (a : Int))) x4 (some (sg c)) (some (.ref R)) (some (.int (k : Int))) (some (.ref N)) (some (.int (j : Int))) none)) ?_ ?_
  · have fl := f_len (lstAt_of n5)
    rw [List.length_map] at fl
    try simp only [ap_seq, ap_asg, ap_call, ap_callX, ap_cons, ap_var, ap_c, ap_nil, ap_tup, ap_lst, ap_op, ap_cb, ap_ret, ap_drop, ap_ifS, ap_for, ap_B, ap_par, ap_name, ap_gtup, ap_gcons, ap_gnil, ap_kG, ap_itL, ap_itR1, ap_lc, ap_next, ap_un, ap_if, ap_sl, ap_part, ap_part0, ap_kPart, ap_kSl, ap_kSl2, ap_kSl3, ap_bm, ap_kBM2, ap_not, ap_kNot, List.getElem?_cons_zero, List.getElem?_cons_succ, gV_some, bind_ok, bind_er, ap_kCons, ap_kCons2, ap_kCall, ap_kTup, ap_kLst, ap_kOp, ap_kOp2, ap_kAsg, ap_kAsg2, ap_kRet, ap_kDrop, ap_kPar, ap_kB, ap_kIfS, ap_kIf, kSeq_nx, kSeq_rt, kDef_rt, kDef_nx, ap_kLc2, tri_bind, tri_noer, trx_bind, trx_noer, tri_ok, trx_ok, trx_er, List.set_cons_zero, List.set_cons_succ, List.length_cons, List.length_nil, Nat.zero_add, Nat.reduceAdd, Nat.reduceLeDiff, if_true, f_add, f_sub]
    rw [fl]
    try simp only [ap_seq, ap_asg, ap_call, ap_callX, ap_cons, ap_var, ap_c, ap_nil, ap_tup, ap_lst, ap_op, ap_cb, ap_ret, ap_drop, ap_ifS, ap_for, ap_B, ap_par, ap_name, ap_gtup, ap_gcons, ap_gnil, ap_kG, ap_itL, ap_itR1, ap_lc, ap_next, ap_un, ap_if, ap_sl, ap_part, ap_part0, ap_kPart, ap_kSl, ap_kSl2, ap_kSl3, ap_bm, ap_kBM2, ap_not, ap_kNot, List.getElem?_cons_zero, List.getElem?_cons_succ, gV_some, bind_ok, bind_er, ap_kCons, ap_kCons2, ap_kCall, ap_kTup, ap_kLst, ap_kOp, ap_kOp2, ap_kAsg, ap_kAsg2, ap_kRet, ap_kDrop, ap_kPar, ap_kB, ap_kIfS, ap_kIf, kSeq_nx, kSeq_rt, kDef_rt, kDef_nx, ap_kLc2, tri_bind, tri_noer, trx_bind, trx_noer, tri_ok, trx_ok, trx_er, List.set_cons_zero, List.set_cons_succ, List.length_cons, List.length_nil, Nat.zero_add, Nat.reduceAdd, Nat.reduceLeDiff, if_true, f_add, f_sub]
    refine drawnF s5 (by omega) (by omega) fun j h6 j0 j1 s6 f6 _ => ?_
    obtain ⟨j, rfl⟩ := Int.eq_ofNat_of_zero_le j0
    try simp only [ap_seq, ap_asg, ap_call, ap_callX, ap_cons, ap_var, ap_c, ap_nil, ap_tup, ap_lst, ap_op, ap_cb, ap_ret, ap_drop, ap_ifS, ap_for, ap_B, ap_par, ap_name, ap_gtup, ap_gcons, ap_gnil, ap_kG, ap_itL, ap_itR1, ap_lc, ap_next, ap_un, ap_if, ap_sl, ap_part, ap_part0, ap_kPart, ap_kSl, ap_kSl2, ap_kSl3, ap_bm, ap_kBM2, ap_not, ap_kNot, List.getElem?_cons_zero, List.getElem?_cons_succ, gV_some, bind_ok, bind_er, ap_kCons, ap_kCons2, ap_kCall, ap_kTup, ap_kLst, ap_kOp, ap_kOp2, ap_kAsg, ap_kAsg2, ap_kRet, ap_kDrop, ap_kPar, ap_kB, ap_kIfS, ap_kIf, kSeq_nx, kSeq_rt, kDef_rt, kDef_nx, ap_kLc2, tri_bind, tri_noer, trx_bind, trx_noer, tri_ok, trx_ok, trx_er, List.set_cons_zero, List.set_cons_succ, List.length_cons, List.length_nil, Nat.zero_add, Nat.reduceAdd, Nat.reduceLeDiff, if_true, f_add, f_sub]
    exact ⟨j, by omega, s6, f6, rfl⟩
  rintro f h6 ⟨j, hj, s6, f6, rfl⟩
  rw [kSeq_nx]
  have R6 := f6.at R5 (by simpa using nR)
  have W6 := f6.at n5 (by simpa using nW)
  have F6 := F5.trans f6
  -- odd ones
  have n7 := newT h6 (oddS.map EV.str)
  have g7 : Fr [] h6 (h6 ++ [EO.lst (oddS.map EV.str)]) := Fr.app _ _ _
  have E7 : dAsg (dLst (dCons (dC (.str "")) (dCons (dC (.str "0")) (dCons (dC (.str "00")) (dCons (dC (.str "07")) (dCons (dC (.str "99999")) (dCons (dC (.str "100000")) (dCons (dC (.str "-1")) (dCons (dC (.str "-")) (dCons (dC (.str "write")) (dCons (dC (.str "settle")) (dCons (dC (.str "Send")) (dCons (dC (.str "tie")) (dCons (dC (.str "untie")) (dCons (dC (.str "day")) (dCons (dC (.str "days")) dNil)))))))))))))))) (dName 10) (S11 s t (some (.int (w : Int))) (some (.int (a : Int))) x4 (some (sg c)) (some (.ref R)) (some (.int (k : Int))) (some (.ref N)) (some (.int (j : Int))) none) h6 = .ok (.nx (S11 s t (some (.int (w : Int))) (some (.int (a : Int))) x4 (some (sg c)) (some (.ref R)) (some (.int (k : Int))) (some (.ref N)) (some (.int (j : Int))) (some (.ref h6.length)))) (h6 ++ [EO.lst (oddS.map EV.str)]) := by
    simp [oddS]
  rw [ap_seq, E7, bind_ok, kSeq_nx]
  have R7 := g7.at R6 (by simp)
  have W7 := g7.at W6 (by simp)
  have s7 := s6.fr g7
  have nO : h6.length ≠ s := by have := s6.lt; omega
  generalize (h6 ++ [EO.lst (oddS.map EV.str)]) = h7 at *
  generalize h6.length = O at *
  have F7 := F6.trans (g7.weak (by simp))
  refine seq_step (sp5 s7 W7 nW n7 nO hj v1 v2 hl (by omega) w9) ?_
  rintro f h8 ⟨m, V, hV, aV, wV, s8, f8, rfl⟩
  rw [kSeq_nx]
  obtain ⟨t', h9, e9, T9, g9⟩ := sp6 (s := s) (t := t) (k := k) (x2 := some (.int (w : Int))) (x3 := some (.int (a : Int))) (x4 := x4) (x5 := some (sg c)) (x9 := some (.int (j : Int))) (x10 := some (.ref O)) (f8.at R7 (by simpa using nR)) r1 r2 hl hV aV wV
  simp only [ap_ret, e9, bind_ok, ap_kRet, tri_ok, kDef_rt]
  exact q t' h9 T9 (s8.fr g9) ((F7.trans f8).trans (g9.weak (by simp)))
end
end K14
set_option Elab.async false
set_option linter.all false
set_option maxRecDepth 100000
set_option maxHeartbeats 4000000
namespace K14
open PySem L2 EE LW TL
theorem word_asc : ∀ p ∈ tab_COUNTS, (tl p.1).all (fun c => decide (c < 128)) = true := by decide +kernel
theorem row_asc {st : Step} (g : Good st) : Asc (tl (rowJ st)) := fun c hc => by
  rw [tl_rowJ] at hc
  rcases joinL_mem hc with z | ⟨p, hp, z⟩
  · rw [List.mem_singleton.mp z]
    decide
  · rcases List.mem_cons.mp hp with rfl | hp
    · have := List.all_eq_true.mp (word_asc _ (lookup_mem g.1)) c z
      simpa using this
    · obtain ⟨n, _, rfl⟩ := List.mem_map.mp hp
      have := numL_digits n c z
      omega
theorem text_tx {sts : List Step} (hg : ∀ st ∈ sts, Good st) (hl : sts.length ≤ 20) : Tz 620 (textJ sts) := by
  refine ⟨fun c hc => ?_, text_len hg hl⟩
  rw [tl_textJ] at hc
  rcases joinL_mem hc with z | ⟨p, hp, z⟩
  · rw [List.mem_singleton.mp z]
    decide
  · obtain ⟨st, hs, rfl⟩ := List.mem_map.mp hp
    exact row_asc (hg st hs) c z
def someA : List Str := ["", "\n", "settle ", " settle", "settle 0", "write 0 1", "write 0 1 2 3", "send", "send 0\n"]
def someB : List Str := ["carry a", "lose -1"]
theorem some_ok : ∀ p ∈ someA ++ someB, (tl p).length ≤ 620 ∧ (tl p).all (fun c => decide (c < 128)) = true := by decide +kernel
theorem some_tx {p : Str} (h : p ∈ someA ++ someB) : Tz 620 p := by
  obtain ⟨a, b⟩ := some_ok p h
  exact ⟨fun c hc => by simpa using List.all_eq_true.mp b c hc, a⟩
def bnd : Nat → Nat
  | 0 => 620
  | i + 1 => 4 * bnd i + 13
theorem bnd_le : ∀ i, i < 3 → bnd i ≤ 9990 := by decide
theorem bnd_end : ∀ i, i < 4 → bnd i ≤ 39980 := by decide
section
variable {ns : List Int} {h : EH}
theorem turn_ok {S : Nat} {x3 x4 x5 x6 x7 x8 x9 : Option EV} {K : Flw → EH → Prop} (hs : St ns h 1) (hS : h[S]? = some (.lst ((someA ++ someB).map EV.str))) (nS : S ≠ 1)
    (q : ∀ (x4 x5 x6 x7 x8 x9 : Option EV) h', St ns h' 1 → h'[S]? = some (.lst ((someA ++ someB).map EV.str)) → K (.nx [some (.ref 0), some (.ref 1), some (.ref S), x3, x4, x5, x6, x7, x8, x9]) h') :
    Tri ((dSeq (dAsg (dCall m_written (dCons (dCall m__law_play (dCons (dVar 1) dNil)) dNil)) (dName 8))
  (dSeq (dIfS (dB (dOp fEq (dCall LW.m__law_drawn (dCons (dVar 1) (dCons (dC (.int 4)) dNil))) (dC (.int 0)))) (dAsg (dOp fIx (dVar 2) (dCall LW.m__law_drawn (dCons (dVar 1) (dCons (dC (.int 11)) dNil)))) (dName 8))
  dNext)
  (dSeq (dFor (dItR1 (dCons (dCall LW.m__law_drawn (dCons (dVar 1) (dCons (dC (.int 4)) dNil))) dNil)) (dName 4)
  (dAsg (dCall m__law_spoilt (dCons (dVar 1) (dCons (dVar 8) dNil))) (dName 8)))
  (dSeq (dAsg (dIf (dB (dOp fNe (dVar 8) (dC (.str "")))) (dLc (dItL (dSM1 mSplit (dVar 8) (dC (.str "\n")))) (dName 9) dYes (dCall m__law_row (dCons (dVar 9) dNil)) [9]) (dLst dNil)) (dName 5))
  (dSeq (dAsg (dIf (dB (dOp fInD (dC .non) (dVar 5))) (dTup (dCons (dC (.str "BadText")) (dCons (dBM mIndexD (dVar 5) (dCons (dC .non) dNil)) dNil))) (dVar 5)) (dName 6))
  (dFor (dItR1 (dCons (dC (.int 2)) dNil)) (dName 7)
  (dIfS (dNot (dB (dCall (LW.m__law_same 8) (dCons (dWord rs_word (dCallX m_read (dCons (dVar 8) dNil))) (dCons (dVar 6) dNil))))) (dRet (dC (.bl false)))
  dNext))))))) [some (.ref 0), some (.ref 1), some (.ref S), x3, x4, x5, x6, x7, x8, x9] h) K := by
  -- the text
  refine seq_step (P := fun f h' => ∃ t : Str, Tz 620 t ∧ St ns h' 1 ∧ Fr [1] h h' ∧ f = .nx (T10 (some (.ref S)) x3 x4 x5 x6 x7 t x9)) ?_ ?_
  · try simp only [ap_seq, ap_asg, ap_call, ap_callX, ap_cons, ap_var, ap_c, ap_nil, ap_tup, ap_lst, ap_op, ap_cb, ap_ret, ap_drop, ap_ifS, ap_for, ap_B, ap_par, ap_name, ap_gtup, ap_gcons, ap_gnil, ap_kG, ap_itL, ap_itR1, ap_lc, ap_next, ap_un, ap_if, ap_sl, ap_part, ap_part0, ap_kPart, ap_kSl, ap_kSl2, ap_kSl3, ap_bm, ap_kBM2, ap_not, ap_kNot, List.getElem?_cons_zero, List.getElem?_cons_succ, gV_some, bind_ok, bind_er, ap_kCons, ap_kCons2, ap_kCall, ap_kTup, ap_kLst, ap_kOp, ap_kOp2, ap_kAsg, ap_kAsg2, ap_kRet, ap_kDrop, ap_kPar, ap_kB, ap_kIfS, ap_kIf, kSeq_nx, kSeq_rt, kDef_rt, kDef_nx, ap_kLc2, tri_bind, tri_noer, trx_bind, trx_noer, tri_ok, trx_ok, trx_er, List.set_cons_zero, List.set_cons_succ, List.length_cons, List.length_nil, Nat.zero_add, Nat.reduceAdd, Nat.reduceLeDiff, if_true, f_add, f_sub]
    refine play hs fun l sts h1 hg hl hm _ s1 f1 => ?_
    try simp only [ap_seq, ap_asg, ap_call, ap_callX, ap_cons, ap_var, ap_c, ap_nil, ap_tup, ap_lst, ap_op, ap_cb, ap_ret, ap_drop, ap_ifS, ap_for, ap_B, ap_par, ap_name, ap_gtup, ap_gcons, ap_gnil, ap_kG, ap_itL, ap_itR1, ap_lc, ap_next, ap_un, ap_if, ap_sl, ap_part, ap_part0, ap_kPart, ap_kSl, ap_kSl2, ap_kSl3, ap_bm, ap_kBM2, ap_not, ap_kNot, List.getElem?_cons_zero, List.getElem?_cons_succ, gV_some, bind_ok, bind_er, ap_kCons, ap_kCons2, ap_kCall, ap_kTup, ap_kLst, ap_kOp, ap_kOp2, ap_kAsg, ap_kAsg2, ap_kRet, ap_kDrop, ap_kPar, ap_kB, ap_kIfS, ap_kIf, kSeq_nx, kSeq_rt, kDef_rt, kDef_nx, ap_kLc2, tri_bind, tri_noer, trx_bind, trx_noer, tri_ok, trx_ok, trx_er, List.set_cons_zero, List.set_cons_succ, List.length_cons, List.length_nil, Nat.zero_add, Nat.reduceAdd, Nat.reduceLeDiff, if_true, f_add, f_sub]
    refine written_ok hg hl (lst_mut hm) fun h2 f2 => ?_
    try simp only [ap_seq, ap_asg, ap_call, ap_callX, ap_cons, ap_var, ap_c, ap_nil, ap_tup, ap_lst, ap_op, ap_cb, ap_ret, ap_drop, ap_ifS, ap_for, ap_B, ap_par, ap_name, ap_gtup, ap_gcons, ap_gnil, ap_kG, ap_itL, ap_itR1, ap_lc, ap_next, ap_un, ap_if, ap_sl, ap_part, ap_part0, ap_kPart, ap_kSl, ap_kSl2, ap_kSl3, ap_bm, ap_kBM2, ap_not, ap_kNot, List.getElem?_cons_zero, List.getElem?_cons_succ, gV_some, bind_ok, bind_er, ap_kCons, ap_kCons2, ap_kCall, ap_kTup, ap_kLst, ap_kOp, ap_kOp2, ap_kAsg, ap_kAsg2, ap_kRet, ap_kDrop, ap_kPar, ap_kB, ap_kIfS, ap_kIf, kSeq_nx, kSeq_rt, kDef_rt, kDef_nx, ap_kLc2, tri_bind, tri_noer, trx_bind, trx_noer, tri_ok, trx_ok, trx_er, List.set_cons_zero, List.set_cons_succ, List.length_cons, List.length_nil, Nat.zero_add, Nat.reduceAdd, Nat.reduceLeDiff, if_true, f_add, f_sub]
    exact ⟨_, text_tx hg hl, s1.fr f2, f1.trans (f2.weak (by simp)), rfl⟩
  rintro f h1 ⟨t, T, s1, f1, rfl⟩
  rw [kSeq_nx]
  have S1 := f1.at hS (by simpa using nS)
  -- an odd one
  refine seq_step (P := fun f h' => ∃ t : Str, Tz 620 t ∧ St ns h' 1 ∧ Fr [1] h1 h' ∧ f = .nx (T10 (some (.ref S)) x3 x4 x5 x6 x7 t x9)) ?_ ?_
  · rw [ap_ifS]
    try simp only [ap_seq, ap_asg, ap_call, ap_callX, ap_cons, ap_var, ap_c, ap_nil, ap_tup, ap_lst, ap_op, ap_cb, ap_ret, ap_drop, ap_ifS, ap_for, ap_B, ap_par, ap_name, ap_gtup, ap_gcons, ap_gnil, ap_kG, ap_itL, ap_itR1, ap_lc, ap_next, ap_un, ap_if, ap_sl, ap_part, ap_part0, ap_kPart, ap_kSl, ap_kSl2, ap_kSl3, ap_bm, ap_kBM2, ap_not, ap_kNot, List.getElem?_cons_zero, List.getElem?_cons_succ, gV_some, bind_ok, bind_er, ap_kCons, ap_kCons2, ap_kCall, ap_kTup, ap_kLst, ap_kOp, ap_kOp2, ap_kAsg, ap_kAsg2, ap_kRet, ap_kDrop, ap_kPar, ap_kB, ap_kIfS, ap_kIf, kSeq_nx, kSeq_rt, kDef_rt, kDef_nx, ap_kLc2, tri_bind, tri_noer, trx_bind, trx_noer, tri_ok, trx_ok, trx_er, List.set_cons_zero, List.set_cons_succ, List.length_cons, List.length_nil, Nat.zero_add, Nat.reduceAdd, Nat.reduceLeDiff, if_true, f_add, f_sub]
    refine drawnF s1 (by decide) (by decide) fun r h2 r0 r1 s2 f2 _ => ?_
    have eq : fEq (.int r) (.int 0) h2 = .ok (.bl (decide (r = 0))) h2 := by
      show Res.ok (EV.bl (false ^^ decide (r = 0))) h2 = _
      rw [Bool.false_xor]
    try simp only [ap_seq, ap_asg, ap_call, ap_callX, ap_cons, ap_var, ap_c, ap_nil, ap_tup, ap_lst, ap_op, ap_cb, ap_ret, ap_drop, ap_ifS, ap_for, ap_B, ap_par, ap_name, ap_gtup, ap_gcons, ap_gnil, ap_kG, ap_itL, ap_itR1, ap_lc, ap_next, ap_un, ap_if, ap_sl, ap_part, ap_part0, ap_kPart, ap_kSl, ap_kSl2, ap_kSl3, ap_bm, ap_kBM2, ap_not, ap_kNot, List.getElem?_cons_zero, List.getElem?_cons_succ, gV_some, bind_ok, bind_er, ap_kCons, ap_kCons2, ap_kCall, ap_kTup, ap_kLst, ap_kOp, ap_kOp2, ap_kAsg, ap_kAsg2, ap_kRet, ap_kDrop, ap_kPar, ap_kB, ap_kIfS, ap_kIf, kSeq_nx, kSeq_rt, kDef_rt, kDef_nx, ap_kLc2, tri_bind, tri_noer, trx_bind, trx_noer, tri_ok, trx_ok, trx_er, List.set_cons_zero, List.set_cons_succ, List.length_cons, List.length_nil, Nat.zero_add, Nat.reduceAdd, Nat.reduceLeDiff, if_true, f_add, f_sub]
    rw [eq]
    try simp only [ap_seq, ap_asg, ap_call, ap_callX, ap_cons, ap_var, ap_c, ap_nil, ap_tup, ap_lst, ap_op, ap_cb, ap_ret, ap_drop, ap_ifS, ap_for, ap_B, ap_par, ap_name, ap_gtup, ap_gcons, ap_gnil, ap_kG, ap_itL, ap_itR1, ap_lc, ap_next, ap_un, ap_if, ap_sl, ap_part, ap_part0, ap_kPart, ap_kSl, ap_kSl2, ap_kSl3, ap_bm, ap_kBM2, ap_not, ap_kNot, List.getElem?_cons_zero, List.getElem?_cons_succ, gV_some, bind_ok, bind_er, ap_kCons, ap_kCons2, ap_kCall, ap_kTup, ap_kLst, ap_kOp, ap_kOp2, ap_kAsg, ap_kAsg2, ap_kRet, ap_kDrop, ap_kPar, ap_kB, ap_kIfS, ap_kIf, kSeq_nx, kSeq_rt, kDef_rt, kDef_nx, ap_kLc2, tri_bind, tri_noer, trx_bind, trx_noer, tri_ok, trx_ok, trx_er, List.set_cons_zero, List.set_cons_succ, List.length_cons, List.length_nil, Nat.zero_add, Nat.reduceAdd, Nat.reduceLeDiff, if_true, f_add, f_sub]
    by_cases c : r = 0
    · rw [decide_eq_true c]
      try simp only [ap_seq, ap_asg, ap_call, ap_callX, ap_cons, ap_var, ap_c, ap_nil, ap_tup, ap_lst, ap_op, ap_cb, ap_ret, ap_drop, ap_ifS, ap_for, ap_B, ap_par, ap_name, ap_gtup, ap_gcons, ap_gnil, ap_kG, ap_itL, ap_itR1, ap_lc, ap_next, ap_un, ap_if, ap_sl, ap_part, ap_part0, ap_kPart, ap_kSl, ap_kSl2, ap_kSl3, ap_bm, ap_kBM2, ap_not, ap_kNot, List.getElem?_cons_zero, List.getElem?_cons_succ, gV_some, bind_ok, bind_er, ap_kCons, ap_kCons2, ap_kCall, ap_kTup, ap_kLst, ap_kOp, ap_kOp2, ap_kAsg, ap_kAsg2, ap_kRet, ap_kDrop, ap_kPar, ap_kB, ap_kIfS, ap_kIf, kSeq_nx, kSeq_rt, kDef_rt, kDef_nx, ap_kLc2, tri_bind, tri_noer, trx_bind, trx_noer, tri_ok, trx_ok, trx_er, List.set_cons_zero, List.set_cons_succ, List.length_cons, List.length_nil, Nat.zero_add, Nat.reduceAdd, Nat.reduceLeDiff, if_true, f_add, f_sub]
      refine drawnF s2 (by decide) (by decide) fun k h3 k0 k1 s3 f3 _ => ?_
      obtain ⟨v, hv, ev⟩ := pickE (lstAt_of (f3.at (f2.at S1 (by simpa using nS)) (by simpa using nS))) k0 (by simp [someA, someB]; omega)
      obtain ⟨p, hp, rfl⟩ := List.mem_map.mp hv
      rw [ev]
      try simp only [ap_seq, ap_asg, ap_call, ap_callX, ap_cons, ap_var, ap_c, ap_nil, ap_tup, ap_lst, ap_op, ap_cb, ap_ret, ap_drop, ap_ifS, ap_for, ap_B, ap_par, ap_name, ap_gtup, ap_gcons, ap_gnil, ap_kG, ap_itL, ap_itR1, ap_lc, ap_next, ap_un, ap_if, ap_sl, ap_part, ap_part0, ap_kPart, ap_kSl, ap_kSl2, ap_kSl3, ap_bm, ap_kBM2, ap_not, ap_kNot, List.getElem?_cons_zero, List.getElem?_cons_succ, gV_some, bind_ok, bind_er, ap_kCons, ap_kCons2, ap_kCall, ap_kTup, ap_kLst, ap_kOp, ap_kOp2, ap_kAsg, ap_kAsg2, ap_kRet, ap_kDrop, ap_kPar, ap_kB, ap_kIfS, ap_kIf, kSeq_nx, kSeq_rt, kDef_rt, kDef_nx, ap_kLc2, tri_bind, tri_noer, trx_bind, trx_noer, tri_ok, trx_ok, trx_er, List.set_cons_zero, List.set_cons_succ, List.length_cons, List.length_nil, Nat.zero_add, Nat.reduceAdd, Nat.reduceLeDiff, if_true, f_add, f_sub]
      exact ⟨p, some_tx hp, s3, f2.trans f3, rfl⟩
    · rw [decide_eq_false c]
      simp only [Bool.false_eq_true, if_false, ap_next, tri_ok]
      exact ⟨t, T, s2, f2, rfl⟩
  rintro f h2 ⟨t, T, s2, f2, rfl⟩
  rw [kSeq_nx]
  have S2 := f2.at S1 (by simpa using nS)
  -- told otherwise
  refine seq_step (P := fun f h' => ∃ (t : Str) (x4 : Option EV), Tz 39980 t ∧ St ns h' 1 ∧ Fr [1] h2 h' ∧ f = .nx (T10 (some (.ref S)) x3 x4 x5 x6 x7 t x9)) ?_ ?_
  · rw [ap_for, ap_itR1]
    try simp only [ap_seq, ap_asg, ap_call, ap_callX, ap_cons, ap_var, ap_c, ap_nil, ap_tup, ap_lst, ap_op, ap_cb, ap_ret, ap_drop, ap_ifS, ap_for, ap_B, ap_par, ap_name, ap_gtup, ap_gcons, ap_gnil, ap_kG, ap_itL, ap_itR1, ap_lc, ap_next, ap_un, ap_if, ap_sl, ap_part, ap_part0, ap_kPart, ap_kSl, ap_kSl2, ap_kSl3, ap_bm, ap_kBM2, ap_not, ap_kNot, List.getElem?_cons_zero, List.getElem?_cons_succ, gV_some, bind_ok, bind_er, ap_kCons, ap_kCons2, ap_kCall, ap_kTup, ap_kLst, ap_kOp, ap_kOp2, ap_kAsg, ap_kAsg2, ap_kRet, ap_kDrop, ap_kPar, ap_kB, ap_kIfS, ap_kIf, kSeq_nx, kSeq_rt, kDef_rt, kDef_nx, ap_kLc2, tri_bind, tri_noer, trx_bind, trx_noer, tri_ok, trx_ok, trx_er, List.set_cons_zero, List.set_cons_succ, List.length_cons, List.length_nil, Nat.zero_add, Nat.reduceAdd, Nat.reduceLeDiff, if_true, f_add, f_sub]
    refine drawnF s2 (by decide) (by decide) fun r h3 r0 r1 s3 f3 _ => ?_
    obtain ⟨r, rfl⟩ := Int.eq_ofNat_of_zero_le r0
    have ir := ap_kItR1 h3 (r : Int) (by omega) (by omega)
    try simp only [ap_seq, ap_asg, ap_call, ap_callX, ap_cons, ap_var, ap_c, ap_nil, ap_tup, ap_lst, ap_op, ap_cb, ap_ret, ap_drop, ap_ifS, ap_for, ap_B, ap_par, ap_name, ap_gtup, ap_gcons, ap_gnil, ap_kG, ap_itL, ap_itR1, ap_lc, ap_next, ap_un, ap_if, ap_sl, ap_part, ap_part0, ap_kPart, ap_kSl, ap_kSl2, ap_kSl3, ap_bm, ap_kBM2, ap_not, ap_kNot, List.getElem?_cons_zero, List.getElem?_cons_succ, gV_some, bind_ok, bind_er, ap_kCons, ap_kCons2, ap_kCall, ap_kTup, ap_kLst, ap_kOp, ap_kOp2, ap_kAsg, ap_kAsg2, ap_kRet, ap_kDrop, ap_kPar, ap_kB, ap_kIfS, ap_kIf, kSeq_nx, kSeq_rt, kDef_rt, kDef_nx, ap_kLc2, tri_bind, tri_noer, trx_bind, trx_noer, tri_ok, trx_ok, trx_er, List.set_cons_zero, List.set_cons_succ, List.length_cons, List.length_nil, Nat.zero_add, Nat.reduceAdd, Nat.reduceLeDiff, if_true, f_add, f_sub]
    rw [ir]
    try simp only [ap_seq, ap_asg, ap_call, ap_callX, ap_cons, ap_var, ap_c, ap_nil, ap_tup, ap_lst, ap_op, ap_cb, ap_ret, ap_drop, ap_ifS, ap_for, ap_B, ap_par, ap_name, ap_gtup, ap_gcons, ap_gnil, ap_kG, ap_itL, ap_itR1, ap_lc, ap_next, ap_un, ap_if, ap_sl, ap_part, ap_part0, ap_kPart, ap_kSl, ap_kSl2, ap_kSl3, ap_bm, ap_kBM2, ap_not, ap_kNot, List.getElem?_cons_zero, List.getElem?_cons_succ, gV_some, bind_ok, bind_er, ap_kCons, ap_kCons2, ap_kCall, ap_kTup, ap_kLst, ap_kOp, ap_kOp2, ap_kAsg, ap_kAsg2, ap_kRet, ap_kDrop, ap_kPar, ap_kB, ap_kIfS, ap_kIf, kSeq_nx, kSeq_rt, kDef_rt, kDef_nx, ap_kLc2, tri_bind, tri_noer, trx_bind, trx_noer, tri_ok, trx_ok, trx_er, List.set_cons_zero, List.set_cons_succ, List.length_cons, List.length_nil, Nat.zero_add, Nat.reduceAdd, Nat.reduceLeDiff, if_true, f_add, f_sub]
    refine tri_for (xs := rng 0 (r : Int).toNat) (fun i es h' => i < 4 ∧ ∃ (t : Str) (x4 : Option EV), Tz (bnd i) t ∧ St ns h' 1 ∧ Fr [1] h2 h' ∧ es = T10 (some (.ref S)) x3 x4 x5 x6 x7 t x9) ⟨by decide, t, _, T, s3, f3, rfl⟩ (fun _ _ _ _ => rfl) ?_ ?_
    · rintro i v es h5 K hv ⟨i4, t, x4, T, s5, f5, rfl⟩ hK _ _ _
      obtain ⟨hi, rfl⟩ := rng_at hv
      have hi' : i < 3 := by rw [Int.toNat_natCast] at hi; omega
      try simp only [ap_seq, ap_asg, ap_call, ap_callX, ap_cons, ap_var, ap_c, ap_nil, ap_tup, ap_lst, ap_op, ap_cb, ap_ret, ap_drop, ap_ifS, ap_for, ap_B, ap_par, ap_name, ap_gtup, ap_gcons, ap_gnil, ap_kG, ap_itL, ap_itR1, ap_lc, ap_next, ap_un, ap_if, ap_sl, ap_part, ap_part0, ap_kPart, ap_kSl, ap_kSl2, ap_kSl3, ap_bm, ap_kBM2, ap_not, ap_kNot, List.getElem?_cons_zero, List.getElem?_cons_succ, gV_some, bind_ok, bind_er, ap_kCons, ap_kCons2, ap_kCall, ap_kTup, ap_kLst, ap_kOp, ap_kOp2, ap_kAsg, ap_kAsg2, ap_kRet, ap_kDrop, ap_kPar, ap_kB, ap_kIfS, ap_kIf, kSeq_nx, kSeq_rt, kDef_rt, kDef_nx, ap_kLc2, tri_bind, tri_noer, trx_bind, trx_noer, tri_ok, trx_ok, trx_er, List.set_cons_zero, List.set_cons_succ, List.length_cons, List.length_nil, Nat.zero_add, Nat.reduceAdd, Nat.reduceLeDiff, if_true, f_add, f_sub]
      refine spoilt_ok s5 T (bnd_le i hi') fun t' h6 T6 s6 f6 => ?_
      try simp only [ap_seq, ap_asg, ap_call, ap_callX, ap_cons, ap_var, ap_c, ap_nil, ap_tup, ap_lst, ap_op, ap_cb, ap_ret, ap_drop, ap_ifS, ap_for, ap_B, ap_par, ap_name, ap_gtup, ap_gcons, ap_gnil, ap_kG, ap_itL, ap_itR1, ap_lc, ap_next, ap_un, ap_if, ap_sl, ap_part, ap_part0, ap_kPart, ap_kSl, ap_kSl2, ap_kSl3, ap_bm, ap_kBM2, ap_not, ap_kNot, List.getElem?_cons_zero, List.getElem?_cons_succ, gV_some, bind_ok, bind_er, ap_kCons, ap_kCons2, ap_kCall, ap_kTup, ap_kLst, ap_kOp, ap_kOp2, ap_kAsg, ap_kAsg2, ap_kRet, ap_kDrop, ap_kPar, ap_kB, ap_kIfS, ap_kIf, kSeq_nx, kSeq_rt, kDef_rt, kDef_nx, ap_kLc2, tri_bind, tri_noer, trx_bind, trx_noer, tri_ok, trx_ok, trx_er, List.set_cons_zero, List.set_cons_succ, List.length_cons, List.length_nil, Nat.zero_add, Nat.reduceAdd, Nat.reduceLeDiff, if_true, f_add, f_sub]
      exact hK _ _ ⟨by omega, t', _, T6, s6, f5.trans f6, rfl⟩
    · rintro es h5 ⟨i4, t, x4, T, s5, f5, rfl⟩
      exact ⟨t, x4, T.up (bnd_end _ i4), s5, f5, rfl⟩
  rintro f h3 ⟨t, x4, T, s3, f3, rfl⟩
  rw [kSeq_nx]
  have S3 := f3.at S2 (by simpa using nS)
  -- by the law's reader
  refine seq_step (P := fun f h' => ∃ l, lstAt h' l = some ((rowsO t).map outR) ∧ Fr [] h3 h' ∧ f = .nx (T10 (some (.ref S)) x3 x4 (some (.ref l)) x6 x7 t x9)) ?_ ?_
  · rw [ap_asg, tri_bind]
    refine (steps_ok T (Nat.le_refl _)).mono ?_
    rintro v h4 ⟨l, rfl, hl, f4⟩
    simp only [ap_kAsg, ap_name, bind_ok, ap_kAsg2, tri_ok, List.set_cons_succ, List.set_cons_zero]
    exact ⟨l, hl, f4, rfl⟩
  rintro f h4 ⟨l, hl, f4, rfl⟩
  rw [kSeq_nx]
  have S4 := f4.at S3 (by simp)
  have s4 := s3.fr f4
  obtain ⟨v, ed, D⟩ := due_ok (x2 := some (.ref S)) (x3 := x3) (x4 := x4) (x6 := x6) (x7 := x7) (x9 := x9) hl
  have e5 : dAsg (dIf (dB (dOp fInD (dC .non) (dVar 5))) (dTup (dCons (dC (.str "BadText")) (dCons (dBM mIndexD (dVar 5) (dCons (dC .non) dNil)) dNil))) (dVar 5)) (dName 6) (T10 (some (.ref S)) x3 x4 (some (.ref l)) x6 x7 t x9) h4 = .ok (.nx (T10 (some (.ref S)) x3 x4 (some (.ref l)) (some v) x7 t x9)) h4 := by
    rw [ap_asg, ed]
    simp only [bind_ok, ap_kAsg, ap_name, ap_kAsg2, List.set_cons_succ, List.set_cons_zero]
  rw [ap_seq, e5, bind_ok, kSeq_nx]
  -- asked twice
  rw [ap_for, ap_itR1]
  have ir := ap_kItR1 h4 (2 : Int) (by omega) (by omega)
  simp only [ap_cons, ap_c, bind_ok, ap_kCons, ap_nil, ap_kCons2, ir]
  refine tri_for (xs := rng 0 (2 : Int).toNat) (fun i es h' => ∃ x7 : Option EV, Fr [] h4 h' ∧ es = T10 (some (.ref S)) x3 x4 (some (.ref l)) (some v) x7 t x9) ⟨_, Fr.refl _ _, rfl⟩ (fun _ _ _ _ => rfl) ?_ ?_
  · rintro i y es h5 K hv ⟨x7, f5, rfl⟩ hK _ _ _
    simp only [ap_name, tri_ok, List.set_cons_zero, List.set_cons_succ]
    rw [ap_ifS, tri_bind]
    refine (told_ok T (Nat.le_refl _) (f5.lst hl (by simp)) D).mono ?_
    rintro b h6 ⟨rfl, f6⟩
    simp only [ap_kIfS, Bool.false_eq_true, if_false, ap_next, tri_ok]
    exact hK _ _ ⟨_, f5.trans f6, rfl⟩
  · rintro es h5 ⟨x7, f5, rfl⟩
    exact q _ _ _ _ _ _ h5 (s4.fr f5) (f5.at S4 (by simp))
theorem law_okl {ns : List Int} : ∃ h, m_law [.ref 0] [.ro (ns.map EV.int)] = .ok (.bl true) h := by
  suffices hyp : Tri (m_law [.ref 0] [.ro (ns.map EV.int)]) (fun v _ => v = .bl true) by
    obtain ⟨v, h', e, rfl⟩ := hyp.ex
    exact ⟨h', e⟩
  rw [u_law, tri_bind]
  unfold b_law
  refine seq_step (P := fun f h' => f = .nx [some (.ref 0), some (.ref 1), none, none, none, none, none, none, none, none] ∧ St ns h' 1) ?_ ?_
  · try simp only [ap_seq, ap_asg, ap_call, ap_callX, ap_cons, ap_var, ap_c, ap_nil, ap_tup, ap_lst, ap_op, ap_cb, ap_ret, ap_drop, ap_ifS, ap_for, ap_B, ap_par, ap_name, ap_gtup, ap_gcons, ap_gnil, ap_kG, ap_itL, ap_itR1, ap_lc, ap_next, ap_un, ap_if, ap_sl, ap_part, ap_part0, ap_kPart, ap_kSl, ap_kSl2, ap_kSl3, ap_bm, ap_kBM2, ap_not, ap_kNot, List.getElem?_cons_zero, List.getElem?_cons_succ, gV_some, bind_ok, bind_er, ap_kCons, ap_kCons2, ap_kCall, ap_kTup, ap_kLst, ap_kOp, ap_kOp2, ap_kAsg, ap_kAsg2, ap_kRet, ap_kDrop, ap_kPar, ap_kB, ap_kIfS, ap_kIf, kSeq_nx, kSeq_rt, kDef_rt, kDef_nx, ap_kLc2, tri_bind, tri_noer, trx_bind, trx_noer, tri_ok, trx_ok, trx_er, List.set_cons_zero, List.set_cons_succ, List.length_cons, List.length_nil, Nat.zero_add, Nat.reduceAdd, Nat.reduceLeDiff, if_true, f_add, f_sub]
    exact start rfl fun h1 s1 f1 => ⟨rfl, s1⟩
  rintro f h1 ⟨rfl, s1⟩
  rw [kSeq_nx]
  have E1 : dAsg (dLst (dCons (dC (.str "")) (dCons (dC (.str "\n")) (dCons (dC (.str "settle ")) (dCons (dC (.str " settle")) (dCons (dC (.str "settle 0")) (dCons (dC (.str "write 0 1")) (dCons (dC (.str "write 0 1 2 3")) (dCons (dC (.str "send")) (dCons (dC (.str "send 0\n")) dNil)))))))))) (dName 2) [some (.ref 0), some (.ref 1), none, none, none, none, none, none, none, none] h1 = .ok (.nx [some (.ref 0), some (.ref 1), some (.ref h1.length), none, none, none, none, none, none, none]) (h1 ++ [EO.lst (someA.map EV.str)]) := by
    simp [someA]
  have g2 : Fr [] h1 (h1 ++ [EO.lst (someA.map EV.str)]) := Fr.app _ _ _
  have n2 := newT h1 (someA.map EV.str)
  have l2 : (h1 ++ [EO.lst (someA.map EV.str)]).length = h1.length + 1 := by simp
  rw [ap_seq, E1, bind_ok, kSeq_nx]
  have s2 := s1.fr g2
  generalize (h1 ++ [EO.lst (someA.map EV.str)]) = h2 at *
  have g3 : Fr [] h2 (h2 ++ [EO.lst (someB.map EV.str)]) := Fr.app _ _ _
  have n3 := newT h2 (someB.map EV.str)
  have m3 := g3.at n2 (by simp)
  have ll : dLst (dCons (dC (.str "carry a")) (dCons (dC (.str "lose -1")) dNil)) [some (.ref 0), some (.ref 1), some (.ref h1.length), none, none, none, none, none, none, none] h2 = .ok (.ref h2.length) (h2 ++ [EO.lst (someB.map EV.str)]) := by
    simp [someB]
  have s3 := s2.fr g3
  have l3 : (h2 ++ [EO.lst (someB.map EV.str)]).length = h2.length + 1 := by simp
  generalize (h2 ++ [EO.lst (someB.map EV.str)]) = h3 at *
  have c4 := catT m3 n3 (by decide)
  have g4 : Fr [] h3 (h3 ++ [EO.lst ((someA ++ someB).map EV.str)]) := Fr.app _ _ _
  have n4 := newT h3 ((someA ++ someB).map EV.str)
  have E2 : dAsg (dOp fAdd (dVar 2) (dLst (dCons (dC (.str "carry a")) (dCons (dC (.str "lose -1")) dNil)))) (dName 2) [some (.ref 0), some (.ref 1), some (.ref h1.length), none, none, none, none, none, none, none] h2 = .ok (.nx [some (.ref 0), some (.ref 1), some (.ref h3.length), none, none, none, none, none, none, none]) (h3 ++ [EO.lst ((someA ++ someB).map EV.str)]) := by
    rw [ap_asg, ap_op]
    simp only [ap_var, List.getElem?_cons_succ, List.getElem?_cons_zero, gV_some, bind_ok, ap_kOp, ll, ap_kOp2, c4, ap_kAsg, ap_name, ap_kAsg2, List.set_cons_succ, List.set_cons_zero]
  rw [ap_seq, E2, bind_ok, kSeq_nx]
  have s4 := s3.fr g4
  have nS : h3.length ≠ 1 := by have := s3.lt; omega
  generalize (h3 ++ [EO.lst ((someA ++ someB).map EV.str)]) = h4 at *
  generalize h3.length = S at *
  refine seq_step (P := fun f h' => ∃ x3 x4 x5 x6 x7 x8 x9 : Option EV, f = .nx [some (.ref 0), some (.ref 1), some (.ref S), x3, x4, x5, x6, x7, x8, x9]) ?_ ?_
  · rw [ap_for, ap_itR1]
    have ir := ap_kItR1 h4 (6 : Int) (by omega) (by omega)
    simp only [ap_cons, ap_c, bind_ok, ap_kCons, ap_nil, ap_kCons2, ir]
    refine tri_for (xs := rng 0 (6 : Int).toNat) (fun i es h' => ∃ x3 x4 x5 x6 x7 x8 x9 : Option EV, St ns h' 1 ∧ h'[S]? = some (.lst ((someA ++ someB).map EV.str)) ∧ es = [some (.ref 0), some (.ref 1), some (.ref S), x3, x4, x5, x6, x7, x8, x9]) ⟨_, _, _, _, _, _, _, s4, n4, rfl⟩ (fun _ _ _ _ => rfl) ?_ ?_
    · rintro i y es h5 K hv ⟨x3, x4, x5, x6, x7, x8, x9, s5, S5, rfl⟩ hK _ _ _
      simp only [ap_name, tri_ok, List.set_cons_zero, List.set_cons_succ]
      exact turn_ok s5 S5 nS fun y4 y5 y6 y7 y8 y9 h6 s6 S6 => hK _ _ ⟨_, _, _, _, _, _, _, s6, S6, rfl⟩
    · rintro es h5 ⟨x3, x4, x5, x6, x7, x8, x9, s5, S5, rfl⟩
      exact ⟨_, _, _, _, _, _, _, rfl⟩
  rintro f h5 ⟨x3, x4, x5, x6, x7, x8, x9, rfl⟩
  rw [kSeq_nx]
  simp
theorem law_ok : LawOk m_law := fun ns _ => law_okl
end
end K14
set_option Elab.async false
set_option linter.all false
set_option maxRecDepth 100000
set_option maxHeartbeats 4000000
namespace K14
open PySem PySem.Spec PyProof.Rows L2 EE
def topS (i : Nat) : Stmt := PySem.Challenge.pw_newsflood_k14_texts_refused.main.body.getD i (.Pass ⟨0, 0, 0, 0⟩)
abbrev s__law_start : Stmt := topS 20
theorem sc__law_start : FnScope ["_law_script", "_law_mixed", "_law_cell"] ["_law_script"] (defScope s__law_start) := ⟨rfl, rfl, rfl, by decide +kernel, rfl, by decide +kernel, by decide +kernel⟩
abbrev s_written : Stmt := topS 15
theorem sc_written : FnScope ["steps", "step", "part"] ["steps"] (defScope s_written) := ⟨rfl, rfl, rfl, by decide +kernel, rfl, by decide +kernel, by decide +kernel⟩
abbrev s__law_drawn : Stmt := topS 21
theorem sc__law_drawn : FnScope ["_law_state", "_law_many", "_law_found", "_law_cell"] ["_law_state", "_law_many"] (defScope s__law_drawn) := ⟨rfl, rfl, rfl, by decide +kernel, rfl, by decide +kernel, by decide +kernel⟩
abbrev s__law_play : Stmt := topS 24
theorem sc__law_play : FnScope ["_law_state", "_law_sizes", "_law_found", "_law_turn", "_law_word_here", "_law_numbers", "_law_k"] ["_law_state"] (defScope s__law_play) := ⟨rfl, rfl, rfl, by decide +kernel, rfl, by decide +kernel, by decide +kernel⟩
abbrev s__law_spoilt : Stmt := topS 26
theorem sc__law_spoilt : FnScope ["_law_state", "_law_text", "_law_way", "_law_at", "_law_signs", "_law_sign", "_law_rows", "_law_k", "_law_words", "_law_j", "_law_odd"] ["_law_state", "_law_text"] (defScope s__law_spoilt) := ⟨rfl, rfl, rfl, by decide +kernel, rfl, by decide +kernel, by decide +kernel⟩
abbrev s__law_row : Stmt := topS 25
theorem sc__law_row : FnScope ["_law_row_here", "_law_sizes", "_law_words", "_law_found", "_law_word_here", "_law_sign"] ["_law_row_here"] (defScope s__law_row) := ⟨rfl, rfl, rfl, by decide +kernel, rfl, by decide +kernel, by decide +kernel⟩
abbrev s__law_same : Stmt := topS 22
theorem sc__law_same : FnScope ["_law_found", "_law_due", "_law_k"] ["_law_found", "_law_due"] (defScope s__law_same) := ⟨rfl, rfl, rfl, by decide +kernel, rfl, by decide +kernel, by decide +kernel⟩
abbrev s__law_word : Stmt := topS 23
theorem sc__law_word : FnScope ["_law_work", "e", "_law_kinds", "_law_words", "_law_word_here"] ["_law_work"] (defScope s__law_word) := ⟨rfl, rfl, rfl, by decide +kernel, rfl, by decide +kernel, by decide +kernel⟩
def hBody (st : Stmt) : List Stmt := match defBody st with
  | [.Try _ [.ExceptHandler _ _ b _] _ _ _] => b
  | _ => []
abbrev s__is_number : Stmt := topS 18
theorem sc__is_number : FnScope ["part"] ["part"] (defScope s__is_number) := ⟨rfl, rfl, rfl, by decide +kernel, rfl, by decide +kernel, by decide +kernel⟩
abbrev s__step : Stmt := topS 17
theorem sc__step : FnScope ["number", "row", "word", "parts", "part", "numbers"] ["number", "row"] (defScope s__step) := ⟨rfl, rfl, rfl, by decide +kernel, rfl, by decide +kernel, by decide +kernel⟩
abbrev s_read : Stmt := topS 16
theorem sc_read : FnScope ["text", "number", "row"] ["text"] (defScope s_read) := ⟨rfl, rfl, rfl, by decide +kernel, rfl, by decide +kernel, by decide +kernel⟩
abbrev s_law : Stmt := topS 27
theorem sc_law : FnScope ["_law_script", "_law_state", "_law_some", "_law_turn", "_law_change", "_law_steps", "_law_due", "_law_again", "_law_text", "_law_row_here"] ["_law_script"] (defScope s_law) := ⟨rfl, rfl, rfl, by decide +kernel, rfl, by decide +kernel, by decide +kernel⟩
def ctH (A29 P900 : Addr) : Nat → Addr × List Str := fun c => match c with  | 29 => (A29, ["row"]) | 900 => (P900, [(("law" : Str) ++ ".<locals>.") ++ "<lambda>"]) | _ => (0, [])
theorem tabs_eq {A29 P900 : Addr} : tabOf (ctH A29 P900) = [(P900, (("law" : Str) ++ ".<locals>.") ++ "<lambda>")] := rfl
theorem mem_0 {A29 P900 : Addr} : (P900, (("law" : Str) ++ ".<locals>.") ++ "<lambda>") ∈ tabOf (ctH A29 P900) := by rw [tabs_eq]; simp
theorem uni_0 {A29 P900 : Addr} (ne : ([P900] : List Addr).Nodup) : ∀ p ∈ tabOf (ctH A29 P900), p.1 = P900 → p.2 = (("law" : Str) ++ ".<locals>.") ++ "<lambda>" := by
  intro p hp h
  rw [tabs_eq] at hp
  simp only [List.mem_cons, List.not_mem_nil, or_false] at hp
  simp only [List.nodup_cons, List.mem_cons, List.not_mem_nil, or_false, not_or, not_false_eq_true, List.nodup_nil, and_true, true_and] at ne
  rcases hp with rfl
  · rfl
abbrev s_BadText___init__ : Stmt := inClass (topS 11) 0
structure Top (K : Fg) (mg : Str → Option Value) (A29 P900 : Addr) (w : World) (P : Program) (NW c900 : Addr) : Prop where
  g_COUNTS : ∃ a, mg "COUNTS" = some (.ref a) ∧ KTab K w a tab_COUNTS
  b_ValueError : mg "ValueError" = none
  b_bool : mg "bool" = none
  b_enumerate : mg "enumerate" = none
  b_int : mg "int" = none
  b_isinstance : mg "isinstance" = none
  b_len : mg "len" = none
  b_list : mg "list" = none
  b_range : mg "range" = none
  b_sorted : mg "sorted" = none
  b_str : mg "str" = none
  b_super : mg "super" = none
  b_tuple : mg "tuple" = none
  g_MOST_FIGURES : ∃ t, mg "MOST_FIGURES" = some (.int 5 t)
  ne : ([P900] : List Addr).Nodup
  g_NewsError : mg "NewsError" = some (.ref NW)
  g_BadText : mg "BadText" = some (.ref (ctH A29 P900 29).1)
  w_BadText : XwD K (ctH A29 P900 29).1 NW
  i_BadText_BadHouse : IsKit K mg (ctH A29 P900 29).1 "BadHouse" false
  i_BadText_BadDay : IsKit K mg (ctH A29 P900 29).1 "BadDay" false
  i_BadText_BadWorth : IsKit K mg (ctH A29 P900 29).1 "BadWorth" false
  i_BadText_BadLife : IsKit K mg (ctH A29 P900 29).1 "BadLife" false
  i_BadText_NotOwn : IsKit K mg (ctH A29 P900 29).1 "NotOwn" false
  i_BadText_BadLetter : IsKit K mg (ctH A29 P900 29).1 "BadLetter" false
  i_BadText_BadTies : IsKit K mg (ctH A29 P900 29).1 "BadTies" false
  i_BadText_NoWay : IsKit K mg (ctH A29 P900 29).1 "NoWay" false
  i_BadText_BadRow : IsKit K mg (ctH A29 P900 29).1 "BadRow" false
  i_BadText_BadText : IsKit K mg (ctH A29 P900 29).1 "BadText" true
  n_BadText : PySem.W.findIn K (.ref (ctH A29 P900 29).1) "row" = some none
  s_BadText : SupD P w K mg (ctH A29 P900 29).1 "row" "row " " of the text can't be read"
  f__law_start : Tx K mg "_law_start" s__law_start ["_law_script"]
  f_written : Tx K mg "written" s_written ["steps"]
  f__law_drawn : Tx K mg "_law_drawn" s__law_drawn ["_law_state", "_law_many"]
  f__law_play : Tx K mg "_law_play" s__law_play ["_law_state"]
  f__law_spoilt : Tx K mg "_law_spoilt" s__law_spoilt ["_law_state", "_law_text"]
  f__law_row : Tx K mg "_law_row" s__law_row ["_law_row_here"]
  f__law_same : Tx K mg "_law_same" s__law_same ["_law_found", "_law_due"]
  f__law_word : Tx K mg "_law_word" s__law_word ["_law_work"]
  f__is_number : Tx K mg "_is_number" s__is_number ["part"]
  f__step : Tx K mg "_step" s__step ["number", "row"]
  f_read : Tx K mg "read" s_read ["text"]
  f_law : TxC K mg "law" s_law ["_law_script"] c900
section
variable {P : Program} {w : World} {K : Fg} {mg : Str → Option Value} {base : Heap} {A29 P900 : Addr} {NW c900 : Addr}
def raisedP (c : Nat) : Prop := c = 29
theorem word_ex (T : Top K mg A29 P900 w P NW c900) : ∀ c, raisedP c → PySem.W.exmOne K (.ref ((ctH A29 P900) c).1) (.ref NW) = some true := fun c hc => by
  rcases hc with rfl
  · exact T.w_BadText.ex
theorem suite_ok (T : Top K mg A29 P900 w P NW c900) {k : Nat} {A : Around} {stack : List Env} {g : Addr} {cdv : Value} {s : Shared} {H : Hp} {a : Addr} {oe : Obj} {d : Option Addr} {pn : List (Addr × Obj)} {c : Nat} (hr : Room k (A.deeper (envOfC "_law_word" (defScope s__law_word) s.heap.objs.size g cdv))) (hc : raisedP c) (hz : Zc (.ref ((ctH A29 P900) c).1) d oe) (hf : ∃ vs, oe.data = .fields vs) :
    PSsd (((cxOf C8.CX0 P w K mg base ["_law_work", "e", "_law_kinds", "_law_words", "_law_word_here"] "_law_word" (defScope s__law_word) g cdv A stack s H C8.E0).nox).suite a ((a, oe) :: pn)) (ctH A29 P900) E0 (hBody s__law_word) (WW.b_suite c a d) := by
  rcases hc with rfl
  · exact (xss_cons (xs_set 2 sc__law_word.nd (xe_lst (xa_cons (xe_isX 1 T.w_BadText.xi hz hf (by rfl) T.b_isinstance (by rfl) T.i_BadText_BadHouse.choose_spec.1 T.i_BadText_BadHouse.choose_spec.2) (xa_cons (xe_isX 1 T.w_BadText.xi hz hf (by rfl) T.b_isinstance (by rfl) T.i_BadText_BadDay.choose_spec.1 T.i_BadText_BadDay.choose_spec.2) (xa_cons (xe_isX 1 T.w_BadText.xi hz hf (by rfl) T.b_isinstance (by rfl) T.i_BadText_BadWorth.choose_spec.1 T.i_BadText_BadWorth.choose_spec.2) (xa_cons (xe_isX 1 T.w_BadText.xi hz hf (by rfl) T.b_isinstance (by rfl) T.i_BadText_BadLife.choose_spec.1 T.i_BadText_BadLife.choose_spec.2) xa_nil))))))
    (xss_cons (xs_set 2 sc__law_word.nd (xe_op o_add (xe_var 2) (xe_lst (xa_cons (xe_isX 1 T.w_BadText.xi hz hf (by rfl) T.b_isinstance (by rfl) T.i_BadText_NotOwn.choose_spec.1 T.i_BadText_NotOwn.choose_spec.2) (xa_cons (xe_isX 1 T.w_BadText.xi hz hf (by rfl) T.b_isinstance (by rfl) T.i_BadText_BadLetter.choose_spec.1 T.i_BadText_BadLetter.choose_spec.2) (xa_cons (xe_isX 1 T.w_BadText.xi hz hf (by rfl) T.b_isinstance (by rfl) T.i_BadText_BadTies.choose_spec.1 T.i_BadText_BadTies.choose_spec.2) (xa_cons (xe_isX 1 T.w_BadText.xi hz hf (by rfl) T.b_isinstance (by rfl) T.i_BadText_NoWay.choose_spec.1 T.i_BadText_NoWay.choose_spec.2) xa_nil)))))))
    (xss_cons (xs_set 2 sc__law_word.nd (xe_op o_add (xe_var 2) (xe_lst (xa_cons (xe_isX 1 T.w_BadText.xi hz hf (by rfl) T.b_isinstance (by rfl) T.i_BadText_BadRow.choose_spec.1 T.i_BadText_BadRow.choose_spec.2) (xa_cons (xe_isX 1 T.w_BadText.xi hz hf (by rfl) T.b_isinstance (by rfl) T.i_BadText_BadText.choose_spec.1 T.i_BadText_BadText.choose_spec.2) xa_nil)))))
    (xss_cons (xs_set 3 sc__law_word.nd (xe_lst (xa_cons xe_str (xa_cons xe_str (xa_cons xe_str (xa_cons xe_str (xa_cons xe_str (xa_cons xe_str (xa_cons xe_str (xa_cons xe_str (xa_cons xe_str xa_nil)))))))))))
    (xss_cons (xs_expr (xe_append (xe_var 3) (xa_cons xe_str xa_nil)))
    (xss_cons (xs_if (xt_w (xw_or (xt_cmp (o_ne (hu64s hr)) (xe_cntB (xe_var 2) (xa_cons xe_bl xa_nil)) xe_int) (xw_or1 (xt_not (xt_val (xe_isXB 1 T.w_BadText.xi hz hf (by rfl) T.b_isinstance (by rfl) T.b_ValueError (by rfl) T.w_BadText.ve)))))) (xss_one (xs_ret (xe_tup (xa_cons xe_str (xa_cons xe_int xa_nil)))))
    xss_nil)
    (xss_cons (xs_set 4 sc__law_word.nd (xe_ix i_ix (xe_var 3) (xe_idxB (xe_var 2) (xa_cons xe_bl xa_nil))))
    (xss_one (xs_ret (xe_tup (xa_cons (xe_var 4) (xa_cons (xe_if (xt_cmp (o_eq (hu64s hr)) (xe_var 4) xe_str) xe_no (xe_if (xt_cmp (o_eq (hu64s hr)) (xe_var 4) xe_str) (xe_xf 1 T.w_BadText.xf T.n_BadText hz hf) xe_int)) xa_nil))))))))))))
theorem rs_ok {A29 P900 : Addr} : ∀ (c : Nat) (a : Addr) (dd : Option Addr) (fs : List EV) (h1 : EH) (v : EV) (h2 : EH), rs_word c fs h1 = some (v, h2) → dd.isSome = !fs.isEmpty → raisedP c ∧ WW.b_suite c a dd [none, some (.exc a dd ((ctH A29 P900) c).2 fs), none, none, none] h1 = .ok (.rt v) h2 := by
  intro c a dd fs h1 v h2 h hd
  unfold rs_word at h
  split at h
  · cases h
    refine ⟨rfl, ?_⟩
    obtain ⟨d0, rfl⟩ := Option.isSome_iff_exists.mp hd
    exact WW.suite29 a d0 _ h1
  · cases h
theorem d__law_start (T : Top K mg A29 P900 w P NW c900) (B0 : LamX.TabB base mg c900 P900) : FnD P w K mg base (ctH A29 P900) 1 "_law_start" LW.m__law_start := by
  refine fnd_mk T.f__law_start sc__law_start fun f cdv A outer s H E hr => ?_
  exact (xss_cons (xs_set 1 sc__law_start.nd xe_int)
    (xss_cons (xs_for PassesOwn.never rfl (xi_list (xe_var 0)) (xg_name 2 sc__law_start.nd)
    (xss_one (xs_set 1 sc__law_start.nd (xe_op o_mod (xe_op o_add (xe_op o_add (xe_op o_mul (xe_var 1) xe_int) (xe_var 2)) xe_int) xe_int))))
    (xss_one (xs_ret (xe_lst (xa_cons (xe_var 0) (xa_cons xe_int (xa_cons (xe_var 1) (xa_cons xe_int xa_nil)))))))))
theorem d_written (T : Top K mg A29 P900 w P NW c900) (B0 : LamX.TabB base mg c900 P900) : FnD P w K mg base (ctH A29 P900) 1 "written" m_written := by
  refine fnd_mk T.f_written sc_written fun f cdv A outer s H E hr => ?_
  exact (xss_one (xs_ret (xe_join xe_str (xe_lc1 1 rfl sc_written.nd (xi_list (xe_var 0)) (fun _ _ _ _ _ => (xe_join xe_str (xe_lc1 2 rfl sc_written.nd (xi_tup (xe_var 1)) (fun _ _ _ _ _ => (xe_callTy c_str (by rfl) T.b_str (by decide +kernel) (xa_cons (xe_var 2) xa_nil))) (hg := fun _ _ _ _ _ => pg_name sc_written.nd rfl (by first | exact Or.inl rfl | exact Or.inr rfl))))) (hg := fun _ _ _ _ _ => pg_name sc_written.nd rfl (by first | exact Or.inl rfl | exact Or.inr rfl))))))
theorem d__law_drawn (T : Top K mg A29 P900 w P NW c900) (B0 : LamX.TabB base mg c900 P900) : FnD P w K mg base (ctH A29 P900) 1 "_law_drawn" LW.m__law_drawn := by
  refine fnd_mk T.f__law_drawn sc__law_drawn fun f cdv A outer s H E hr => ?_
  exact (xss_cons (xs_if (xt_cmp o_gt (xe_ix i_ix (xe_var 0) xe_int) xe_int) (xss_cons (xs_set 2 sc__law_drawn.nd (xe_op o_mod (xe_ix i_ix (xe_var 0) xe_int) (xe_var 1)))
    (xss_cons (xs_asg (xe_op o_div (xe_ix i_ix (xe_var 0) xe_int) (xe_var 1)) (xg_sub (xe_var 0) xe_int set_lst))
    (xss_one (xs_ret (xe_var 2)))))
    xss_nil)
    (xss_cons (xs_asg (xe_op o_add (xe_ix i_ix (xe_var 0) xe_int) xe_int) (xg_sub (xe_var 0) xe_int set_lst))
    (xss_cons (xs_if (xt_cmp o_le (xe_ix i_ix (xe_var 0) xe_int) (xe_callB c_len (by rfl) T.b_len (by decide +kernel) (xa_cons (xe_ix i_ix (xe_var 0) xe_int) xa_nil))) (xss_cons (xs_set 3 sc__law_drawn.nd (xe_ix i_ix (xe_ix i_ix (xe_var 0) xe_int) (xe_op o_sub (xe_ix i_ix (xe_var 0) xe_int) xe_int)))
    (xss_cons (xs_asg (xe_if (xt_cmp o_ge (xe_var 3) (xe_op o_pow xe_int xe_int)) (xe_op o_div (xe_var 3) (xe_var 1)) xe_int) (xg_sub (xe_var 0) xe_int set_lst))
    (xss_one (xs_ret (xe_op o_mod (xe_var 3) (xe_var 1))))))
    xss_nil)
    (xss_cons (xs_asg (xe_op o_mod (xe_op o_add (xe_op o_mul (xe_ix i_ix (xe_var 0) xe_int) xe_int) xe_int) xe_int) (xg_sub (xe_var 0) xe_int set_lst))
    (xss_one (xs_ret (xe_op o_mod (xe_op o_div (xe_ix i_ix (xe_var 0) xe_int) xe_int) (xe_var 1))))))))
theorem d__law_play (T : Top K mg A29 P900 w P NW c900) (B0 : LamX.TabB base mg c900 P900) : FnD P w K mg base (ctH A29 P900) 2 "_law_play" m__law_play := by
  have c__law_drawn := (d__law_drawn (P := P) (w := w) (base := base) T B0).mono (show 1 ≤ 1 by decide)
  refine fnd_mk T.f__law_play sc__law_play fun f cdv A outer s H E hr => ?_
  exact (xss_cons (xs_set 1 sc__law_play.nd (xe_disp (xp_cons xe_str xe_int (xp_cons xe_str xe_int (xp_cons xe_str xe_int (xp_cons xe_str xe_int (xp_cons xe_str xe_int (xp_cons xe_str xe_int (xp_cons xe_str xe_int (xp_cons xe_str xe_int (xp_cons xe_str xe_int xp_nil)))))))))))
    (xss_cons (xs_expr (xe_updK (xe_var 1) (xa_cons (xe_disp (xp_cons xe_str xe_int (xp_cons xe_str xe_int xp_nil))) xa_nil)))
    (xss_cons (xs_set 2 sc__law_play.nd (xe_lst xa_nil))
    (xss_cons (xs_for PassesOwn.never rfl (xi_rng1 (by rfl) T.b_range (xa_cons (xe_call c__law_drawn hr (by rfl) (xa_cons (xe_var 0) (xa_cons xe_int xa_nil))) xa_nil)) (xg_name 3 sc__law_play.nd)
    (xss_cons (xs_set 4 sc__law_play.nd (xe_ix i_ix (xe_callB (c_sortK rfl) (by rfl) T.b_sorted (by decide +kernel) (xa_cons (xe_var 1) xa_nil)) (xe_call c__law_drawn hr (by rfl) (xa_cons (xe_var 0) (xa_cons xe_int xa_nil)))))
    (xss_cons (xs_setLc1 5 6 rfl sc__law_play.nd (xi_rng1 (by rfl) T.b_range (xa_cons (xe_dget (hu1 hr) (xe_var 1) (xe_var 4)) xa_nil)) (fun _ _ _ _ _ => (xe_call c__law_drawn hr (by rfl) (xa_cons (xe_var 0) (xa_cons (xe_ix i_ix (xe_lst (xa_cons xe_int (xa_cons xe_int (xa_cons xe_int xa_nil)))) (xe_call c__law_drawn hr (by rfl) (xa_cons (xe_var 0) (xa_cons xe_int xa_nil)))) xa_nil)))) (sw_true rfl rfl rfl (by decide +kernel)) (hg := fun _ _ _ _ _ => pg_name sc__law_play.nd rfl (by first | exact Or.inl rfl | exact Or.inr rfl)))
    (xss_one (xs_expr (xe_append (xe_var 2) (xa_cons (xe_callTy c_tupL (by rfl) T.b_tuple (by decide +kernel) (xa_cons (xe_op o_add (xe_lst (xa_cons (xe_var 4) xa_nil)) (xe_var 5)) xa_nil)) xa_nil)))))))
    (xss_one (xs_ret (xe_var 2)))))))
theorem d__law_spoilt (T : Top K mg A29 P900 w P NW c900) (B0 : LamX.TabB base mg c900 P900) : FnD P w K mg base (ctH A29 P900) 2 "_law_spoilt" m__law_spoilt := by
  have c__law_drawn := (d__law_drawn (P := P) (w := w) (base := base) T B0).mono (show 1 ≤ 1 by decide)
  refine fnd_mk T.f__law_spoilt sc__law_spoilt fun f cdv A outer s H E hr => ?_
  exact (xss_cons (xs_par 2 3 rfl sc__law_spoilt.nd (xa_cons (xe_call c__law_drawn hr (by rfl) (xa_cons (xe_var 0) (xa_cons xe_int xa_nil))) (xa_cons (xe_ix i_ix (xe_lst (xa_cons (xe_call c__law_drawn hr (by rfl) (xa_cons (xe_var 0) (xa_cons (xe_op o_add (xe_callB c_lenS (by rfl) T.b_len (by decide +kernel) (xa_cons (xe_var 1) xa_nil)) xe_int) xa_nil))) (xa_cons (xe_callB c_lenS (by rfl) T.b_len (by decide +kernel) (xa_cons (xe_var 1) xa_nil)) xa_nil))) (xe_op o_div (xe_call c__law_drawn hr (by rfl) (xa_cons (xe_var 0) (xa_cons xe_int xa_nil))) xe_int)) xa_nil)) rfl)
    (xss_cons (xs_set 4 sc__law_spoilt.nd xe_str)
    (xss_cons (xs_set 5 sc__law_spoilt.nd (xe_ix i_str (xe_var 4) (xe_call c__law_drawn hr (by rfl) (xa_cons (xe_var 0) (xa_cons (xe_ix i_ix (xe_lst (xa_cons xe_int (xa_cons (xe_callB c_lenS (by rfl) T.b_len (by decide +kernel) (xa_cons (xe_var 4) xa_nil)) xa_nil))) (xe_call c__law_drawn hr (by rfl) (xa_cons (xe_var 0) (xa_cons xe_int xa_nil)))) xa_nil)))))
    (xss_cons (xs_if (xt_cmp o_lt (xe_var 2) xe_int) (xss_one (xs_ret (xe_op o_catS (xe_op o_catS (xe_sliceX (xe_var 1) xo_none (xo_some (xe_var 3))) (xe_ix i_ix (xe_lst (xa_cons (xe_var 5) (xa_cons xe_str (xa_cons (xe_var 5) xa_nil)))) (xe_var 2))) (xe_sliceX (xe_var 1) (xo_some (xe_op o_add (xe_var 3) (xe_callTy c_int1 (by rfl) T.b_int (by decide +kernel) (xa_cons (xe_cmp o_gt (xe_var 2) xe_int) xa_nil)))) xo_none))))
    xss_nil)
    (xss_cons (xs_set 6 sc__law_spoilt.nd (xe_split (xe_var 1) xe_str))
    (xss_cons (xs_set 7 sc__law_spoilt.nd (xe_call c__law_drawn hr (by rfl) (xa_cons (xe_var 0) (xa_cons (xe_callB c_len (by rfl) T.b_len (by decide +kernel) (xa_cons (xe_var 6) xa_nil)) xa_nil))))
    (xss_cons (xs_if (xt_cmp o_lt (xe_var 2) xe_int) (xss_one (xs_ret (xe_join xe_str (xe_ix i_ix (xe_lst (xa_cons (xe_op o_add (xe_slice (xe_var 6) xo_none (xo_some (xe_var 7))) (xe_slice (xe_var 6) (xo_some (xe_op o_add (xe_var 7) xe_int)) xo_none)) (xa_cons (xe_op o_add (xe_slice (xe_var 6) xo_none (xo_some (xe_op o_add (xe_var 7) xe_int))) (xe_slice (xe_var 6) (xo_some (xe_var 7)) xo_none)) (xa_cons (xe_op o_add (xe_slice (xe_var 6) (xo_some (xe_var 7)) xo_none) (xe_slice (xe_var 6) xo_none (xo_some (xe_var 7)))) xa_nil)))) (xe_op o_sub (xe_var 2) xe_int)))))
    xss_nil)
    (xss_cons (xs_set 8 sc__law_spoilt.nd (xe_split (xe_ix i_ix (xe_var 6) (xe_var 7)) xe_str))
    (xss_cons (xs_set 9 sc__law_spoilt.nd (xe_call c__law_drawn hr (by rfl) (xa_cons (xe_var 0) (xa_cons (xe_callB c_len (by rfl) T.b_len (by decide +kernel) (xa_cons (xe_var 8) xa_nil)) xa_nil))))
    (xss_cons (xs_set 10 sc__law_spoilt.nd (xe_lst (xa_cons xe_str (xa_cons xe_str (xa_cons xe_str (xa_cons xe_str (xa_cons xe_str (xa_cons xe_str (xa_cons xe_str (xa_cons xe_str (xa_cons xe_str (xa_cons xe_str (xa_cons xe_str (xa_cons xe_str (xa_cons xe_str (xa_cons xe_str (xa_cons xe_str xa_nil)))))))))))))))))
    (xss_cons (xs_set 8 sc__law_spoilt.nd (xe_op o_add (xe_op o_add (xe_slice (xe_var 8) xo_none (xo_some (xe_var 9))) (xe_ix i_ix (xe_lst (xa_cons (xe_lst xa_nil) (xa_cons (xe_op o_mul (xe_lst (xa_cons (xe_ix i_ix (xe_var 8) (xe_var 9)) xa_nil)) xe_int) (xa_cons (xe_lst (xa_cons (xe_ix i_ix (xe_var 10) (xe_call c__law_drawn hr (by rfl) (xa_cons (xe_var 0) (xa_cons xe_int xa_nil)))) xa_nil)) xa_nil)))) (xe_op o_sub (xe_var 2) xe_int))) (xe_slice (xe_var 8) (xo_some (xe_op o_add (xe_var 9) xe_int)) xo_none)))
    (xss_one (xs_ret (xe_join xe_str (xe_op o_add (xe_op o_add (xe_slice (xe_var 6) xo_none (xo_some (xe_var 7))) (xe_lst (xa_cons (xe_join xe_str (xe_var 8)) xa_nil))) (xe_slice (xe_var 6) (xo_some (xe_op o_add (xe_var 7) xe_int)) xo_none))))))))))))))))
theorem d__law_row (T : Top K mg A29 P900 w P NW c900) (B0 : LamX.TabB base mg c900 P900) : FnD P w K mg base (ctH A29 P900) 1 "_law_row" m__law_row := by
  refine fnd_mk T.f__law_row sc__law_row fun f cdv A outer s H E hr => ?_
  exact (xss_cons (xs_set 1 sc__law_row.nd (xe_disp (xp_cons xe_str xe_int (xp_cons xe_str xe_int (xp_cons xe_str xe_int (xp_cons xe_str xe_int (xp_cons xe_str xe_int (xp_cons xe_str xe_int (xp_cons xe_str xe_int (xp_cons xe_str xe_int (xp_cons xe_str xe_int xp_nil)))))))))))
    (xss_cons (xs_expr (xe_updK (xe_var 1) (xa_cons (xe_disp (xp_cons xe_str xe_int (xp_cons xe_str xe_int xp_nil))) xa_nil)))
    (xss_cons (xs_set 2 sc__law_row.nd (xe_split (xe_var 0) xe_str))
    (xss_cons (xs_if (xt_cmp (o_ne (hu64 hr)) (xe_get1 (hu1 hr) (xe_var 1) (xa_cons (xe_ix i_ix (xe_var 2) xe_int) xa_nil)) (xe_callB c_len (by rfl) T.b_len (by decide +kernel) (xa_cons (xe_var 2) xa_nil))) (xss_one (xs_ret xe_non))
    xss_nil)
    (xss_cons (xs_set 3 sc__law_row.nd (xe_tup (xa_cons (xe_ix i_ix (xe_var 2) xe_int) xa_nil)))
    (xss_cons (xs_for PassesOwn.never rfl (xi_list (xe_slice (xe_var 2) (xo_some xe_int) xo_none)) (xg_name 4 sc__law_row.nd)
    (xss_cons (xs_if (xt_w (xw_or (xt_not (xt_chain o_lt o_lt xe_int (xe_callB c_lenS (by rfl) T.b_len (by decide +kernel) (xa_cons (xe_var 4) xa_nil)) xe_int)) (xw_or1 (xt_cmp (o_ne (hu64 hr)) (xe_lc1i 5 rfl sc__law_row.nd (xi_str (xe_var 4)) (fun _ _ _ _ _ => (xt_cmp o_notInX (xe_var 5) xe_str)) (fun _ _ _ _ _ => (xe_var 5)) (hg := fun _ _ _ _ _ => pg_name sc__law_row.nd rfl (by first | exact Or.inl rfl | exact Or.inr rfl))) (xe_lst xa_nil))))) (xss_one (xs_ret xe_non))
    xss_nil)
    (xss_cons (xs_if (xt_w (xw_and (xt_cmp o_gt (xe_callB c_lenS (by rfl) T.b_len (by decide +kernel) (xa_cons (xe_var 4) xa_nil)) xe_int) (xw_and1 (xt_cmp (o_eq (hu64 hr)) (xe_ix i_str (xe_var 4) xe_int) xe_str)))) (xss_one (xs_ret xe_non))
    xss_nil)
    (xss_one (xs_set 3 sc__law_row.nd (xe_op o_catT (xe_var 3) (xe_tup (xa_cons (xe_callTy c_intS (by rfl) T.b_int (by decide +kernel) (xa_cons (xe_var 4) xa_nil)) xa_nil))))))))
    (xss_one (xs_ret (xe_var 3)))))))))
theorem d__law_same_n (T : Top K mg A29 P900 w P NW c900) (B0 : LamX.TabB base mg c900 P900) : ∀ n, FnD P w K mg base (ctH A29 P900) (0 + n) "_law_same" (LW.m__law_same n)
  | 0 => (fnd_zero T.f__law_same).mono (Nat.zero_le _)
  | n + 1 => by
    have hrec := d__law_same_n T B0 n
    refine fnd_mk T.f__law_same sc__law_same fun f cdv A outer s H E hr => ?_
    exact (xss_cons (xs_if (xt_val (xe_isi2 .tuple_ .list_ (by rfl) T.b_isinstance (by rfl) T.b_tuple (by decide +kernel) (by rfl) T.b_list (by decide +kernel) (xe_var 1))) (xss_cons (xs_if (xt_w (xw_or (xt_not (xt_val (xe_isi2 .tuple_ .list_ (by rfl) T.b_isinstance (by rfl) T.b_tuple (by decide +kernel) (by rfl) T.b_list (by decide +kernel) (xe_var 0)))) (xw_or1 (xt_cmp (o_ne (hu64 hr)) (xe_isi .list_ (by rfl) T.b_isinstance (by rfl) T.b_list (by decide +kernel) (xe_var 0)) (xe_isi .list_ (by rfl) T.b_isinstance (by rfl) T.b_list (by decide +kernel) (xe_var 1)))))) (xss_one (xs_ret xe_bl))
    xss_nil)
    (xss_cons (xs_if (xt_cmp (o_ne (hu64 hr)) (xe_callB c_len (by rfl) T.b_len (by decide +kernel) (xa_cons (xe_var 0) xa_nil)) (xe_callB c_len (by rfl) T.b_len (by decide +kernel) (xa_cons (xe_var 1) xa_nil))) (xss_one (xs_ret xe_bl))
    xss_nil)
    (xss_one (xs_ret (xe_cmp (o_eq (hu64 hr)) (xe_lc1i 2 rfl sc__law_same.nd (xi_rng1 (by rfl) T.b_range (xa_cons (xe_callB c_len (by rfl) T.b_len (by decide +kernel) (xa_cons (xe_var 1) xa_nil)) xa_nil)) (fun _ _ _ _ _ => (xt_not (xt_val (xe_call hrec hr (by rfl) (xa_cons (xe_ix i_ix (xe_var 0) (xe_var 2)) (xa_cons (xe_ix i_ix (xe_var 1) (xe_var 2)) xa_nil)))))) (fun _ _ _ _ _ => (xe_var 2)) (hg := fun _ _ _ _ _ => pg_name sc__law_same.nd rfl (by first | exact Or.inl rfl | exact Or.inr rfl))) (xe_lst xa_nil))))))
    xss_nil)
    (xss_cons (xs_if (xt_cmp o_isN (xe_var 1) xe_non) (xss_one (xs_ret (xe_cmp o_isN (xe_var 0) xe_non)))
    xss_nil)
    (xss_cons (xs_if (xt_val (xe_isi .str_ (by rfl) T.b_isinstance (by rfl) T.b_str (by decide +kernel) (xe_var 1))) (xss_one (xs_ret (xe_and (xe_isi .str_ (by rfl) T.b_isinstance (by rfl) T.b_str (by decide +kernel) (xe_var 0)) (xe_one (xe_cmp (o_eq (hu64 hr)) (xe_var 0) (xe_var 1))))))
    xss_nil)
    (xss_cons (xs_if (xt_w (xw_or (xt_val (xe_isi .bool_ (by rfl) T.b_isinstance (by rfl) T.b_bool (by decide +kernel) (xe_var 1))) (xw_or1 (xt_val (xe_isi .bool_ (by rfl) T.b_isinstance (by rfl) T.b_bool (by decide +kernel) (xe_var 0)))))) (xss_one (xs_ret (xe_and (xe_isi .bool_ (by rfl) T.b_isinstance (by rfl) T.b_bool (by decide +kernel) (xe_var 1)) (xe_and (xe_isi .bool_ (by rfl) T.b_isinstance (by rfl) T.b_bool (by decide +kernel) (xe_var 0)) (xe_one (xe_cmp (o_eq (hu64 hr)) (xe_var 0) (xe_var 1)))))))
    xss_nil)
    (xss_one (xs_ret (xe_and (xe_isi .int_ (by rfl) T.b_isinstance (by rfl) T.b_int (by decide +kernel) (xe_var 0)) (xe_one (xe_cmp (o_eq (hu64 hr)) (xe_var 0) (xe_var 1))))))))))
theorem d__law_same (T : Top K mg A29 P900 w P NW c900) (B0 : LamX.TabB base mg c900 P900) : FnD P w K mg base (ctH A29 P900) 8 "_law_same" (LW.m__law_same 8) := d__law_same_n T B0 8
theorem d__is_number (T : Top K mg A29 P900 w P NW c900) (B0 : LamX.TabB base mg c900 P900) : FnD P w K mg base (ctH A29 P900) 1 "_is_number" m__is_number := by
  refine fnd_mk T.f__is_number sc__is_number fun f cdv A outer s H E hr => ?_
  exact (xss_cons (xs_if (xt_w (xw_or (xt_not (xt_val (xe_isascii (xe_var 0)))) (xw_or (xt_not (xt_val (xe_isdigit (xe_var 0)))) (xw_or1 (xt_cmp o_gt (xe_callB c_lenS (by rfl) T.b_len (by decide +kernel) (xa_cons (xe_var 0) xa_nil)) (xe_globI (by rfl) T.g_MOST_FIGURES)))))) (xss_one (xs_ret xe_bl))
    xss_nil)
    (xss_one (xs_ret (xe_or (xe_cmp (o_eq (hu64 hr)) (xe_var 0) xe_str) (xe_one (xe_not (xe_starts (xe_var 0) xe_str)))))))
theorem d__step (T : Top K mg A29 P900 w P NW c900) (B0 : LamX.TabB base mg c900 P900) : FnDX P w K mg base (ctH A29 P900) 2 "_step" m__step := by
  have c__is_number := (d__is_number (P := P) (w := w) (base := base) T B0).mono (show 1 ≤ 1 by decide)
  refine fndx_mk T.f__step sc__step fun f cdv A outer s H E hr tk => ?_
  exact (xss_cons (xs_asg (xe_split (xe_var 1) xe_str) (xg_starL rfl (xgs_cons (xg_name 2 sc__step.nd) (xgs_star (xg_name 3 sc__step.nd)))))
    (xss_cons (xs_if (xt_cmp (o_ne (hu64 hr)) (xe_kget (by rfl) T.g_COUNTS (xe_var 2)) (xe_callB c_len (by rfl) T.b_len (by decide +kernel) (xa_cons (xe_var 3) xa_nil))) (xss_one (xs_raiseN 29 T.s_BadText rfl T.g_BadText T.b_super hr rfl tk (by rfl) (xe_var 0)))
    xss_nil)
    (xss_cons (xs_for (passes_of rfl) rfl (xi_list (xe_var 3)) (xg_name 4 sc__step.nd)
    (xss_one (xs_if (xt_not (xt_val (xe_call c__is_number hr (by rfl) (xa_cons (xe_var 4) xa_nil)))) (xss_one (xs_raiseN 29 T.s_BadText rfl T.g_BadText T.b_super hr rfl tk (by rfl) (xe_var 0)))
    xss_nil)))
    (xss_cons (xs_setLc1 5 4 rfl sc__step.nd (xi_list (xe_var 3)) (fun _ _ _ _ _ => (xe_callTy c_intS (by rfl) T.b_int (by decide +kernel) (xa_cons (xe_var 4) xa_nil))) (sw_true rfl rfl rfl (by decide +kernel)) (hg := fun _ _ _ _ _ => pg_name sc__step.nd rfl (by first | exact Or.inl rfl | exact Or.inr rfl)))
    (xss_one (xs_ret (xe_tup (xa_cons (xe_var 2) (xa_star (xe_var 5) xa_nil)))))))))
theorem d_read (T : Top K mg A29 P900 w P NW c900) (B0 : LamX.TabB base mg c900 P900) : FnDX P w K mg base (ctH A29 P900) 3 "read" m_read := by
  have c__step := (d__step (P := P) (w := w) (base := base) T B0).mono (show 2 ≤ 2 by decide)
  refine fndx_mk T.f_read sc_read fun f cdv A outer s H E hr tk => ?_
  exact (xss_cons (xs_if (xt_cmp (o_eq (hu64 hr)) (xe_var 0) xe_str) (xss_one (xs_ret (xe_lst xa_nil)))
    xss_nil)
    (xss_one (xs_ret (xe_lcX [("number", 1), ("row", 2)] rfl rfl rfl sc_read.nd tk (xi_enum (by rfl) T.b_enumerate (xa_cons (xe_split (xe_var 0) xe_str) xa_nil)) (fun _ _ _ _ _ _ px => (xe_callP c__step hr px (by rfl) (xa_cons (xe_var 1) (xa_cons (xe_var 2) xa_nil)))) (fun _ _ _ _ _ => (pg_tup rfl (pgs_cons (pg_name sc_read.nd rfl (by first | exact Or.inl rfl | exact Or.inr rfl)) (pgs_cons (pg_name sc_read.nd rfl (by first | exact Or.inl rfl | exact Or.inr rfl)) pgs_nil)))) (snd_gtup (snd_gcons snd_gname (snd_gcons snd_gname snd_gnil))) (only_tup (only_cons (only_name (by decide)) (only_cons (only_name (by decide)) only_nil)))))))
theorem d_law_at {f : Addr} {oc : Value} {od an : Option Addr} {osl : Array (Option Value)} {kV doc pm cc : Value} (l : K.lookup f = some ⟨oc, od, .func (PySem.W.fnOf "law" "law" (defArgs s_law) (defBody s_law) (defScope s_law) .none kV doc pm an (.ref c900) cc), osl⟩) (hcd : PySem.W.codeIn K (.ref c900) "law" = true) (T : Top K mg A29 P900 w P NW c900) (B0 : LamX.TabB base mg c900 P900) :
    FnOk P w K mg base CX0 9 f (PySem.W.fnOf "law" "law" (defArgs s_law) (defBody s_law) (defScope s_law) .none kV doc pm an (.ref c900) cc) ["_law_script"] (spD0 ⟨K, (ctH A29 P900)⟩ m_law) := by
  have c__law_start := (d__law_start (P := P) (w := w) (base := base) T B0).mono (show 1 ≤ 8 by decide)
  have c_written := (d_written (P := P) (w := w) (base := base) T B0).mono (show 1 ≤ 8 by decide)
  have c__law_play := (d__law_play (P := P) (w := w) (base := base) T B0).mono (show 2 ≤ 8 by decide)
  have c__law_drawn := (d__law_drawn (P := P) (w := w) (base := base) T B0).mono (show 1 ≤ 8 by decide)
  have c__law_spoilt := (d__law_spoilt (P := P) (w := w) (base := base) T B0).mono (show 2 ≤ 8 by decide)
  have c__law_row := (d__law_row (P := P) (w := w) (base := base) T B0).mono (show 1 ≤ 8 by decide)
  have c__law_same := (d__law_same (P := P) (w := w) (base := base) T B0).mono (show 8 ≤ 8 by decide)
  have c_read := (d_read (P := P) (w := w) (base := base) T B0).mono (show 3 ≤ 8 by decide)
  have l_read := (d_read (P := P) (w := w) (base := base) T B0).mono (show 3 ≤ 6 by decide)
  refine fn_dC l hcd sc_law fun A outer s H E hr => ?_
  exact (xss_cons (xs_set 1 sc_law.nd (xe_call c__law_start hr (by rfl) (xa_cons (xe_var 0) xa_nil)))
    (xss_cons (xs_set 2 sc_law.nd (xe_lst (xa_cons xe_str (xa_cons xe_str (xa_cons xe_str (xa_cons xe_str (xa_cons xe_str (xa_cons xe_str (xa_cons xe_str (xa_cons xe_str (xa_cons xe_str xa_nil)))))))))))
    (xss_cons (xs_set 2 sc_law.nd (xe_op o_add (xe_var 2) (xe_lst (xa_cons xe_str (xa_cons xe_str xa_nil)))))
    (xss_cons (xs_for PassesOwn.never rfl (xi_rng1 (by rfl) T.b_range (xa_cons xe_int xa_nil)) (xg_name 3 sc_law.nd)
    (xss_cons (xs_set 8 sc_law.nd (xe_call c_written hr (by rfl) (xa_cons (xe_call c__law_play hr (by rfl) (xa_cons (xe_var 1) xa_nil)) xa_nil)))
    (xss_cons (xs_if (xt_cmp (o_eq (hu64 hr)) (xe_call c__law_drawn hr (by rfl) (xa_cons (xe_var 1) (xa_cons xe_int xa_nil))) xe_int) (xss_one (xs_set 8 sc_law.nd (xe_ix i_ix (xe_var 2) (xe_call c__law_drawn hr (by rfl) (xa_cons (xe_var 1) (xa_cons xe_int xa_nil))))))
    xss_nil)
    (xss_cons (xs_for PassesOwn.never rfl (xi_rng1 (by rfl) T.b_range (xa_cons (xe_call c__law_drawn hr (by rfl) (xa_cons (xe_var 1) (xa_cons xe_int xa_nil))) xa_nil)) (xg_name 4 sc_law.nd)
    (xss_one (xs_set 8 sc_law.nd (xe_call c__law_spoilt hr (by rfl) (xa_cons (xe_var 1) (xa_cons (xe_var 8) xa_nil))))))
    (xss_cons (xs_set 5 sc_law.nd (xe_if (xt_cmp (o_ne (hu64 hr)) (xe_var 8) xe_str) (xe_lc1 9 rfl sc_law.nd (xi_list (xe_split (xe_var 8) xe_str)) (fun _ _ _ _ _ => (xe_call c__law_row hr (by rfl) (xa_cons (xe_var 9) xa_nil))) (hg := fun _ _ _ _ _ => pg_name sc_law.nd rfl (by first | exact Or.inl rfl | exact Or.inr rfl))) (xe_lst xa_nil)))
    (xss_cons (xs_set 6 sc_law.nd (xe_if (xt_cmp (o_inD (hu65 hr)) xe_non (xe_var 5)) (xe_tup (xa_cons xe_str (xa_cons (xe_index (hu65 hr) (xe_var 5) (xa_cons xe_non xa_nil)) xa_nil))) (xe_var 5)))
    (xss_one (xs_for PassesOwn.never rfl (xi_rng1 (by rfl) T.b_range (xa_cons xe_int xa_nil)) (xg_name 7 sc_law.nd)
    (xss_one (xs_if (xt_not (xt_val (xe_call c__law_same hr (by rfl) (xa_cons (xe_wordQ (q := ("law" : Str) ++ ".<locals>.") (k := 6) T.f__law_word (by rfl) (by rfl) sc__law_word (by rfl) (Or.inl rfl) (by rfl) T.g_NewsError (by decide) (fun _ => rfl) (by rfl) (by rfl) (by rfl) (word_ex T) (fun g cdv s H a oe d pn c hc hz hf => suite_ok T (hr.deeper _) hc hz hf) B0 rfl rfl mem_0 (uni_0 T.ne) hr (LamX.lamS_by (by kernel_rfl)) (by rfl) (fun _ _ _ _ _ => rfl) (fun A2 outer2 s2 H2 E2 f2 c2 hr tk => (xe_callX l_read hr tk (by rfl) (xa_cons (xe_var 8) xa_nil))) rs_ok) (xa_cons (xe_var 6) xa_nil))))) (xss_one (xs_ret xe_bl))
    xss_nil))))))))))
    (xss_one (xs_ret xe_bl))))))
end
theorem all_mk {l : PySem.W.OpenLaw} {w : World} {K : Fg} {h : Heap} {mg : Str → Option Value} {fa : Addr} (X : K.In h) (G : h.Ns mainGlobals mg) (hfa : mg "law" = some (.ref fa)) (own : OwnTabs K mg h ["law"]) (lok : LawOk m_law)
    {od0 an0 : Option Addr} {sl0 : Array (Option Value)} {oc0 kV0 dc0 pm0 cd0 ct0 : Value} {f0 : Addr}
    (a0 : PySem.W.nsIn K mainGlobals "_law_start" = some (some (.ref f0)))
    (l0 : K.lookup f0 = some ⟨oc0, od0, .func (PySem.W.fnOf "_law_start" "_law_start" (defArgs s__law_start) (defBody s__law_start) (defScope s__law_start) .none kV0 dc0 pm0 an0 cd0 ct0), sl0⟩) (c0 : PySem.W.codeIn K cd0 "_law_start" = true) (k0 : PySem.W.keepIn K (.ref f0) = true)
    {od1 an1 : Option Addr} {sl1 : Array (Option Value)} {oc1 kV1 dc1 pm1 cd1 ct1 : Value} {f1 : Addr}
    (a1 : PySem.W.nsIn K mainGlobals "written" = some (some (.ref f1)))
    (l1 : K.lookup f1 = some ⟨oc1, od1, .func (PySem.W.fnOf "written" "written" (defArgs s_written) (defBody s_written) (defScope s_written) .none kV1 dc1 pm1 an1 cd1 ct1), sl1⟩) (c1 : PySem.W.codeIn K cd1 "written" = true) (k1 : PySem.W.keepIn K (.ref f1) = true)
    {od2 an2 : Option Addr} {sl2 : Array (Option Value)} {oc2 kV2 dc2 pm2 cd2 ct2 : Value} {f2 : Addr}
    (a2 : PySem.W.nsIn K mainGlobals "_law_drawn" = some (some (.ref f2)))
    (l2 : K.lookup f2 = some ⟨oc2, od2, .func (PySem.W.fnOf "_law_drawn" "_law_drawn" (defArgs s__law_drawn) (defBody s__law_drawn) (defScope s__law_drawn) .none kV2 dc2 pm2 an2 cd2 ct2), sl2⟩) (c2 : PySem.W.codeIn K cd2 "_law_drawn" = true) (k2 : PySem.W.keepIn K (.ref f2) = true)
    {od3 an3 : Option Addr} {sl3 : Array (Option Value)} {oc3 kV3 dc3 pm3 cd3 ct3 : Value} {f3 : Addr}
    (a3 : PySem.W.nsIn K mainGlobals "_law_play" = some (some (.ref f3)))
    (l3 : K.lookup f3 = some ⟨oc3, od3, .func (PySem.W.fnOf "_law_play" "_law_play" (defArgs s__law_play) (defBody s__law_play) (defScope s__law_play) .none kV3 dc3 pm3 an3 cd3 ct3), sl3⟩) (c3 : PySem.W.codeIn K cd3 "_law_play" = true) (k3 : PySem.W.keepIn K (.ref f3) = true)
    {od4 an4 : Option Addr} {sl4 : Array (Option Value)} {oc4 kV4 dc4 pm4 cd4 ct4 : Value} {f4 : Addr}
    (a4 : PySem.W.nsIn K mainGlobals "_law_spoilt" = some (some (.ref f4)))
    (l4 : K.lookup f4 = some ⟨oc4, od4, .func (PySem.W.fnOf "_law_spoilt" "_law_spoilt" (defArgs s__law_spoilt) (defBody s__law_spoilt) (defScope s__law_spoilt) .none kV4 dc4 pm4 an4 cd4 ct4), sl4⟩) (c4 : PySem.W.codeIn K cd4 "_law_spoilt" = true) (k4 : PySem.W.keepIn K (.ref f4) = true)
    {od5 an5 : Option Addr} {sl5 : Array (Option Value)} {oc5 kV5 dc5 pm5 cd5 ct5 : Value} {f5 : Addr}
    (a5 : PySem.W.nsIn K mainGlobals "_law_row" = some (some (.ref f5)))
    (l5 : K.lookup f5 = some ⟨oc5, od5, .func (PySem.W.fnOf "_law_row" "_law_row" (defArgs s__law_row) (defBody s__law_row) (defScope s__law_row) .none kV5 dc5 pm5 an5 cd5 ct5), sl5⟩) (c5 : PySem.W.codeIn K cd5 "_law_row" = true) (k5 : PySem.W.keepIn K (.ref f5) = true)
    {od6 an6 : Option Addr} {sl6 : Array (Option Value)} {oc6 kV6 dc6 pm6 cd6 ct6 : Value} {f6 : Addr}
    (a6 : PySem.W.nsIn K mainGlobals "_law_same" = some (some (.ref f6)))
    (l6 : K.lookup f6 = some ⟨oc6, od6, .func (PySem.W.fnOf "_law_same" "_law_same" (defArgs s__law_same) (defBody s__law_same) (defScope s__law_same) .none kV6 dc6 pm6 an6 cd6 ct6), sl6⟩) (c6 : PySem.W.codeIn K cd6 "_law_same" = true) (k6 : PySem.W.keepIn K (.ref f6) = true)
    {od7 an7 : Option Addr} {sl7 : Array (Option Value)} {oc7 kV7 dc7 pm7 cd7 ct7 : Value} {f7 : Addr}
    (a7 : PySem.W.nsIn K mainGlobals "_law_word" = some (some (.ref f7)))
    (l7 : K.lookup f7 = some ⟨oc7, od7, .func (PySem.W.fnOf "_law_word" "_law_word" (defArgs s__law_word) (defBody s__law_word) (defScope s__law_word) .none kV7 dc7 pm7 an7 cd7 ct7), sl7⟩) (c7 : PySem.W.codeIn K cd7 "_law_word" = true) (k7 : PySem.W.keepIn K (.ref f7) = true)
    {od8 an8 : Option Addr} {sl8 : Array (Option Value)} {oc8 kV8 dc8 pm8 cd8 ct8 : Value} {f8 : Addr}
    (a8 : PySem.W.nsIn K mainGlobals "_is_number" = some (some (.ref f8)))
    (l8 : K.lookup f8 = some ⟨oc8, od8, .func (PySem.W.fnOf "_is_number" "_is_number" (defArgs s__is_number) (defBody s__is_number) (defScope s__is_number) .none kV8 dc8 pm8 an8 cd8 ct8), sl8⟩) (c8 : PySem.W.codeIn K cd8 "_is_number" = true) (k8 : PySem.W.keepIn K (.ref f8) = true)
    {od9 an9 : Option Addr} {sl9 : Array (Option Value)} {oc9 kV9 dc9 pm9 cd9 ct9 : Value} {f9 : Addr}
    (a9 : PySem.W.nsIn K mainGlobals "_step" = some (some (.ref f9)))
    (l9 : K.lookup f9 = some ⟨oc9, od9, .func (PySem.W.fnOf "_step" "_step" (defArgs s__step) (defBody s__step) (defScope s__step) .none kV9 dc9 pm9 an9 cd9 ct9), sl9⟩) (c9 : PySem.W.codeIn K cd9 "_step" = true) (k9 : PySem.W.keepIn K (.ref f9) = true)
    {od10 an10 : Option Addr} {sl10 : Array (Option Value)} {oc10 kV10 dc10 pm10 cd10 ct10 : Value} {f10 : Addr}
    (a10 : PySem.W.nsIn K mainGlobals "read" = some (some (.ref f10)))
    (l10 : K.lookup f10 = some ⟨oc10, od10, .func (PySem.W.fnOf "read" "read" (defArgs s_read) (defBody s_read) (defScope s_read) .none kV10 dc10 pm10 an10 cd10 ct10), sl10⟩) (c10 : PySem.W.codeIn K cd10 "read" = true) (k10 : PySem.W.keepIn K (.ref f10) = true)
    {od11 an11 : Option Addr} {sl11 : Array (Option Value)} {oc11 kV11 dc11 pm11 ct11 : Value} {f11 : Addr}
    (a11 : PySem.W.nsIn K mainGlobals "law" = some (some (.ref f11)))
    {c900 P900 : Addr} {tv900 : Array Value} {te900 : Value} {td900 : Option Addr} {ts900 : Array (Option Value)}
    (l11 : K.lookup f11 = some ⟨oc11, od11, .func (PySem.W.fnOf "law" "law" (defArgs s_law) (defBody s_law) (defScope s_law) .none kV11 dc11 pm11 an11 (.ref c900) ct11), sl11⟩) (c11 : PySem.W.codeIn K (.ref c900) "law" = true) (k11 : PySem.W.keepIn K (.ref f11) = true)
    (lc900 : K.lookup c900 = some ⟨te900, td900, .fields tv900, ts900⟩) (vp900 : tv900[11]? = some (.ref P900)) (nP900 : K.lookup P900 = none) (hd900 : PySem.W.codeHdIn K c900 P900 = true)
    (z_ValueError : PySem.W.nsIn K mainGlobals "ValueError" = some none)
    (z_bool : PySem.W.nsIn K mainGlobals "bool" = some none)
    (z_enumerate : PySem.W.nsIn K mainGlobals "enumerate" = some none)
    (z_int : PySem.W.nsIn K mainGlobals "int" = some none)
    (z_isinstance : PySem.W.nsIn K mainGlobals "isinstance" = some none)
    (z_len : PySem.W.nsIn K mainGlobals "len" = some none)
    (z_list : PySem.W.nsIn K mainGlobals "list" = some none)
    (z_range : PySem.W.nsIn K mainGlobals "range" = some none)
    (z_sorted : PySem.W.nsIn K mainGlobals "sorted" = some none)
    (z_str : PySem.W.nsIn K mainGlobals "str" = some none)
    (z_super : PySem.W.nsIn K mainGlobals "super" = some none)
    (z_tuple : PySem.W.nsIn K mainGlobals "tuple" = some none)
    {t_MOST_FIGURES : Tok} (y_MOST_FIGURES : PySem.W.nsIn K mainGlobals "MOST_FIGURES" = some (some (.int 5 t_MOST_FIGURES)))
    {a_COUNTS : Addr} (y_COUNTS : PySem.W.nsIn K mainGlobals "COUNTS" = some (some (.ref a_COUNTS))) (v_COUNTS : KTab K w a_COUNTS tab_COUNTS)
    (ne : ([P900] : List Addr).Nodup)
    {NW : Addr} (aNW : PySem.W.nsIn K mainGlobals "NewsError" = some (some (.ref NW)))
    {A29 : Addr} (aA29 : PySem.W.nsIn K mainGlobals "BadText" = some (some (.ref A29)))
    (xw29 : XwD K A29 NW)
    {D20 : Addr} (aD20 : PySem.W.nsIn K mainGlobals "BadHouse" = some (some (.ref D20)))
    (kt29_20 : PySem.W.kitOne K (.ref A29) (.ref D20) = some false)
    {D21 : Addr} (aD21 : PySem.W.nsIn K mainGlobals "BadDay" = some (some (.ref D21)))
    (kt29_21 : PySem.W.kitOne K (.ref A29) (.ref D21) = some false)
    {D22 : Addr} (aD22 : PySem.W.nsIn K mainGlobals "BadWorth" = some (some (.ref D22)))
    (kt29_22 : PySem.W.kitOne K (.ref A29) (.ref D22) = some false)
    {D23 : Addr} (aD23 : PySem.W.nsIn K mainGlobals "BadLife" = some (some (.ref D23)))
    (kt29_23 : PySem.W.kitOne K (.ref A29) (.ref D23) = some false)
    {D24 : Addr} (aD24 : PySem.W.nsIn K mainGlobals "NotOwn" = some (some (.ref D24)))
    (kt29_24 : PySem.W.kitOne K (.ref A29) (.ref D24) = some false)
    {D25 : Addr} (aD25 : PySem.W.nsIn K mainGlobals "BadLetter" = some (some (.ref D25)))
    (kt29_25 : PySem.W.kitOne K (.ref A29) (.ref D25) = some false)
    {D26 : Addr} (aD26 : PySem.W.nsIn K mainGlobals "BadTies" = some (some (.ref D26)))
    (kt29_26 : PySem.W.kitOne K (.ref A29) (.ref D26) = some false)
    {D27 : Addr} (aD27 : PySem.W.nsIn K mainGlobals "NoWay" = some (some (.ref D27)))
    (kt29_27 : PySem.W.kitOne K (.ref A29) (.ref D27) = some false)
    {D28 : Addr} (aD28 : PySem.W.nsIn K mainGlobals "BadRow" = some (some (.ref D28)))
    (kt29_28 : PySem.W.kitOne K (.ref A29) (.ref D28) = some false)
    {D29 : Addr} (aD29 : PySem.W.nsIn K mainGlobals "BadText" = some (some (.ref D29)))
    (kt29_29 : PySem.W.kitOne K (.ref A29) (.ref D29) = some true)
    (nf29 : PySem.W.findIn K (.ref A29) "row" = some none) (su29 : SupD l.prog w K mg A29 "row" "row " " of the text can't be read") :
    LamX.LawAtS l w K CX0 9 63 "_law_script" mg fa h := by
  have e := hfa.symm.trans (PySem.W.mg_of X G a11)
  cases e
  have F0 := fun_mk (st := s__law_start) l0 c0 k0
  have b0 := F0.binds (ps := ["_law_script"]) fun _ _ _ _ _ _ us hl => match us, hl with | [_], _ => rfl
  have F1 := fun_mk (st := s_written) l1 c1 k1
  have b1 := F1.binds (ps := ["steps"]) fun _ _ _ _ _ _ us hl => match us, hl with | [_], _ => rfl
  have F2 := fun_mk (st := s__law_drawn) l2 c2 k2
  have b2 := F2.binds (ps := ["_law_state", "_law_many"]) fun _ _ _ _ _ _ us hl => match us, hl with | [_, _], _ => rfl
  have F3 := fun_mk (st := s__law_play) l3 c3 k3
  have b3 := F3.binds (ps := ["_law_state"]) fun _ _ _ _ _ _ us hl => match us, hl with | [_], _ => rfl
  have F4 := fun_mk (st := s__law_spoilt) l4 c4 k4
  have b4 := F4.binds (ps := ["_law_state", "_law_text"]) fun _ _ _ _ _ _ us hl => match us, hl with | [_, _], _ => rfl
  have F5 := fun_mk (st := s__law_row) l5 c5 k5
  have b5 := F5.binds (ps := ["_law_row_here"]) fun _ _ _ _ _ _ us hl => match us, hl with | [_], _ => rfl
  have F6 := fun_mk (st := s__law_same) l6 c6 k6
  have b6 := F6.binds (ps := ["_law_found", "_law_due"]) fun _ _ _ _ _ _ us hl => match us, hl with | [_, _], _ => rfl
  have F7 := fun_mk (st := s__law_word) l7 c7 k7
  have b7 := F7.binds (ps := ["_law_work"]) fun _ _ _ _ _ _ us hl => match us, hl with | [_], _ => rfl
  have F8 := fun_mk (st := s__is_number) l8 c8 k8
  have b8 := F8.binds (ps := ["part"]) fun _ _ _ _ _ _ us hl => match us, hl with | [_], _ => rfl
  have F9 := fun_mk (st := s__step) l9 c9 k9
  have b9 := F9.binds (ps := ["number", "row"]) fun _ _ _ _ _ _ us hl => match us, hl with | [_, _], _ => rfl
  have F10 := fun_mk (st := s_read) l10 c10 k10
  have b10 := F10.binds (ps := ["text"]) fun _ _ _ _ _ _ us hl => match us, hl with | [_], _ => rfl
  have b11 : Binds K (PySem.W.fnOf "law" "law" (defArgs s_law) (defBody s_law) (defScope s_law) .none kV11 dc11 pm11 an11 (.ref c900) ct11) ["_law_script"] [] := (fun_mk (st := s_law) l11 c11 k11).binds (ps := ["_law_script"]) fun _ _ _ _ _ _ us hl => match us, hl with | [_], _ => rfl
  have T : Top K mg A29 P900 w l.prog NW c900 := ⟨⟨_, PySem.W.mg_of X G y_COUNTS, v_COUNTS⟩, PySem.W.mg_none_of X G z_ValueError, PySem.W.mg_none_of X G z_bool, PySem.W.mg_none_of X G z_enumerate, PySem.W.mg_none_of X G z_int, PySem.W.mg_none_of X G z_isinstance, PySem.W.mg_none_of X G z_len, PySem.W.mg_none_of X G z_list, PySem.W.mg_none_of X G z_range, PySem.W.mg_none_of X G z_sorted, PySem.W.mg_none_of X G z_str, PySem.W.mg_none_of X G z_super, PySem.W.mg_none_of X G z_tuple, ⟨_, PySem.W.mg_of X G y_MOST_FIGURES⟩, ne, PySem.W.mg_of X G aNW, PySem.W.mg_of X G aA29, xw29, ⟨_, PySem.W.mg_of X G aD20, kt29_20⟩, ⟨_, PySem.W.mg_of X G aD21, kt29_21⟩, ⟨_, PySem.W.mg_of X G aD22, kt29_22⟩, ⟨_, PySem.W.mg_of X G aD23, kt29_23⟩, ⟨_, PySem.W.mg_of X G aD24, kt29_24⟩, ⟨_, PySem.W.mg_of X G aD25, kt29_25⟩, ⟨_, PySem.W.mg_of X G aD26, kt29_26⟩, ⟨_, PySem.W.mg_of X G aD27, kt29_27⟩, ⟨_, PySem.W.mg_of X G aD28, kt29_28⟩, ⟨_, PySem.W.mg_of X G aD29, kt29_29⟩, nf29, su29, ⟨_, _, F0, PySem.W.mg_of X G a0, b0⟩, ⟨_, _, F1, PySem.W.mg_of X G a1, b1⟩, ⟨_, _, F2, PySem.W.mg_of X G a2, b2⟩, ⟨_, _, F3, PySem.W.mg_of X G a3, b3⟩, ⟨_, _, F4, PySem.W.mg_of X G a4, b4⟩, ⟨_, _, F5, PySem.W.mg_of X G a5, b5⟩, ⟨_, _, F6, PySem.W.mg_of X G a6, b6⟩, ⟨_, _, F7, PySem.W.mg_of X G a7, b7⟩, ⟨_, _, F8, PySem.W.mg_of X G a8, b8⟩, ⟨_, _, F9, PySem.W.mg_of X G a9, b9⟩, ⟨_, _, F10, PySem.W.mg_of X G a10, b10⟩, ⟨_, _, _, _, _, _, _, _, _, l11, c11, k11, PySem.W.mg_of X G a11, b11⟩⟩
  refine ⟨PySem.W.fnOf "law" "law" (defArgs s_law) (defBody s_law) (defScope s_law) .none kV11 dc11 pm11 an11 (.ref c900) ct11, [(c900, P900)], spFrz (spD0 ⟨K, (ctH A29 P900)⟩ m_law), ?_, ?_, ?_, fun s u => .of_eq rfl, fun H a ns hn hb hT hS => law_spT lok hn hS ?_, fun base KB NB TB => fn_frz (d_law_at l11 c11 T (TB _ (.head _)))⟩
  · intro p hp
    simp only [List.mem_cons, List.not_mem_nil, or_false] at hp
    rcases hp with rfl
    · exact own "law" (by simp) _ (PySem.W.mg_of X G a11) _ _ _ _ _ _ _ _ l11 rfl rfl lc900 vp900
  · intro p hp
    simp only [List.mem_cons, List.not_mem_nil, or_false] at hp
    rcases hp with rfl
    · exact nP900
  · intro p hp
    simp only [List.mem_cons, List.not_mem_nil, or_false] at hp
    rcases hp with rfl
    · exact PySem.W.codeHd_of_K X hd900
  · intro p hp
    rw [tabs_eq] at hp
    simp only [List.mem_cons, List.not_mem_nil, or_false] at hp
    rcases hp with rfl
    · exact hT (c900, P900) (by simp)
end K14
open PySem PySem.W PyProof.Rows
set_option maxHeartbeats 0 in
theorem PySem.Challenge.cw_newsflood_k14_texts_refused_holds : PySem.Challenge.rw_newsflood_k14_texts_refused.Holds := by
  w_on; o_law; k_head; (case hw => w_witness2)
  k_fill
  refine EE.walk_ofTabs ["law"] (l := PySem.Challenge.rw_newsflood_k14_texts_refused) (n := 63) (k := 9) (x := "_law_script") rfl (by decide) rfl ⟨rfl, by decide, by decide⟩ (by decide +kernel) (fun w h Y => by first | exact PySem.W.kIn_of Y | exact PySem.W.km_in_of Y) ?F
  case F =>
    intro w mg fa h Y KX G hmg own
    refine' K14.all_mk KX G hmg own K14.law_ok ?a0 ?l0 ?c0 ?k0 ?a1 ?l1 ?c1 ?k1 ?a2 ?l2 ?c2 ?k2 ?a3 ?l3 ?c3 ?k3 ?a4 ?l4 ?c4 ?k4 ?a5 ?l5 ?c5 ?k5 ?a6 ?l6 ?c6 ?k6 ?a7 ?l7 ?c7 ?k7 ?a8 ?l8 ?c8 ?k8 ?a9 ?l9 ?c9 ?k9 ?a10 ?l10 ?c10 ?k10 ?a11 ?l11 ?c11 ?k11 ?lc900 ?vp900 ?nP900 ?hd900 ?z_ValueError ?z_bool ?z_enumerate ?z_int ?z_isinstance ?z_len ?z_list ?z_range ?z_sorted ?z_str ?z_super ?z_tuple ?y_MOST_FIGURES ?y_COUNTS ?v_COUNTS ?ne ?aNW ?aA29 ?xw29 ?aD20 ?kt29_20 ?aD21 ?kt29_21 ?aD22 ?kt29_22 ?aD23 ?kt29_23 ?aD24 ?kt29_24 ?aD25 ?kt29_25 ?aD26 ?kt29_26 ?aD27 ?kt29_27 ?aD28 ?kt29_28 ?aD29 ?kt29_29 ?nf29 ?su29
    (case a0 => k_is)
    (case l0 => k_is)
    (case c0 => k_is)
    (case k0 => k_is)
    (case a1 => k_is)
    (case l1 => k_is)
    (case c1 => k_is)
    (case k1 => k_is)
    (case a2 => k_is)
    (case l2 => k_is)
    (case c2 => k_is)
    (case k2 => k_is)
    (case a3 => k_is)
    (case l3 => k_is)
    (case c3 => k_is)
    (case k3 => k_is)
    (case a4 => k_is)
    (case l4 => k_is)
    (case c4 => k_is)
    (case k4 => k_is)
    (case a5 => k_is)
    (case l5 => k_is)
    (case c5 => k_is)
    (case k5 => k_is)
    (case a6 => k_is)
    (case l6 => k_is)
    (case c6 => k_is)
    (case k6 => k_is)
    (case a7 => k_is)
    (case l7 => k_is)
    (case c7 => k_is)
    (case k7 => k_is)
    (case a8 => k_is)
    (case l8 => k_is)
    (case c8 => k_is)
    (case k8 => k_is)
    (case a9 => k_is)
    (case l9 => k_is)
    (case c9 => k_is)
    (case k9 => k_is)
    (case a10 => k_is)
    (case l10 => k_is)
    (case c10 => k_is)
    (case k10 => k_is)
    (case a11 => k_is)
    (case l11 => k_is)
    (case c11 => k_is)
    (case k11 => k_is)
    (case lc900 => k_is)
    (case vp900 => rfl)
    (case nP900 => kernel_rfl)
    (case hd900 => kernel_rfl)
    (case z_ValueError => k_is)
    (case z_bool => k_is)
    (case z_enumerate => k_is)
    (case z_int => k_is)
    (case z_isinstance => k_is)
    (case z_len => k_is)
    (case z_list => k_is)
    (case z_range => k_is)
    (case z_sorted => k_is)
    (case z_str => k_is)
    (case z_super => k_is)
    (case z_tuple => k_is)
    (case y_MOST_FIGURES => k_is)
    (case y_COUNTS => k_is)
    (case v_COUNTS => refine' EE.ktab_of ?x1 ?x2 ?x3; (case x1 => k_is); (case x2 => first | rfl | decide); (case x3 => rfl))
    (case ne => decide)
    (case aNW => k_is)
    (case aA29 => k_is)
    (case xw29 => (refine' EE.xwD_of ?w1 ?w2 ?w3 ?w4 ?w5 ?w6 ?w7 ?w8 ?w9 ?wa ?wb; (case w1 => k_is); (case w2 => k_is); (case w3 => k_is); (case w4 => k_is); (case w5 => k_is); (case w6 => k_is); (case w7 => k_is); (case w8 => k_is); (case w9 => k_is); (case wa => kernel_rfl); (case wb => kernel_rfl)))
    (case aD20 => k_is)
    (case kt29_20 => kernel_rfl)
    (case aD21 => k_is)
    (case kt29_21 => kernel_rfl)
    (case aD22 => k_is)
    (case kt29_22 => kernel_rfl)
    (case aD23 => k_is)
    (case kt29_23 => kernel_rfl)
    (case aD24 => k_is)
    (case kt29_24 => kernel_rfl)
    (case aD25 => k_is)
    (case kt29_25 => kernel_rfl)
    (case aD26 => k_is)
    (case kt29_26 => kernel_rfl)
    (case aD27 => k_is)
    (case kt29_27 => kernel_rfl)
    (case aD28 => k_is)
    (case kt29_28 => kernel_rfl)
    (case aD29 => k_is)
    (case kt29_29 => kernel_rfl)
    (case nf29 => k_is)
    (case su29 => (refine' EE.supD_of (st := K14.s_BadText___init__) ?u1 ?u2 ?u3 ?u4 ?u5 ?u6 ?u7 ?u8 ?u9 ?ua ?ub ?uc ?ud ?ue ?uf ?ug ?uh ?ui ?uj ?uk ?ul ?um ?un ?uo ?up ?uq ?ur ?us ?ut ?uu ?uv ?uw ?ux ?uy ?uz ?va ?vb ?vc ?vd; (case u1 => kernel_rfl); (case u2 => k_is); (case u3 => k_is); (case u4 => k_is); (case u5 => k_is); (case u6 => k_is); (case u7 => k_is); (case u8 => k_is); (case u9 => rfl); (case ua => exact fun _ => ⟨_, rfl⟩); (case ub => exact fun _ _ _ => .of_eq rfl); (case uc => k_is); (case ud => rfl); (case ue => first | rfl | decide); (case uf => first | rfl | decide); (case ug => k_is); (case uh => k_is); (case ui => k_is); (case uj => rfl); (case uk => rfl); (case ul => decide); (case um => rfl); (case un => rfl); (case uo => rfl); (case up => rfl); (case uq => decide +kernel); (case ur => rfl); (case us => rfl); (case ut => rfl); (case uu => decide); (case uv => decide); (case uw => k_is); (case ux => kernel_rfl); (case uy => k_is); (case uz => k_is); (case va => first | rfl | decide); (case vb => rfl); (case vc => k_is); (case vd => exact PySem.W.mg_none_of KX G (by k_is))))
