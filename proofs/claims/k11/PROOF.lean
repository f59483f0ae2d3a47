import PyProof.Rows.All
import Wide.All
import OpenK.AllK
import Wide.FinOn
import HandS.ForMost
import HandS.ForExc
import HandS.Evl
import HandS.More
import HandS.TupAny
import HandS.IsInst
import HandS.ExcIs
import KE.KDictKeyed
import KE.KeyNested
import KE.GoesEnum
import HandS.Conv
import HandS.RaiseMore
import HandS.Defaults
import HandS.Head0
import HandS.Head1
import HandS.Head2
import HandS.HeadEnd
import HandS.HeadHook1
import HandS.HeadHook2
import HandS.HeadHook3
import HandS.HeadHook4
import HandS.SetBool
import HandS.Strs
import HandS.DictComp
import HandS.TupLen
import KE.KDictCopyH
import KE.KDictWalk
import HandS.Style
import HandS.ExcInit
import HandS.ExcField
import KE.KAssignIn
import PySem.Challenge.RW_liveswap_k11_whole_safe_ones_come
set_option Elab.async false
set_option linter.all false
set_option maxRecDepth 100000
set_option maxHeartbeats 4000000
/-! VS: values as trees over the hand layer: what an expression evaluates to is a function of the frame's trees. -/
namespace VS
open PySem PySem.Spec PyProof.Rows L2 Evl

/-- what the text's written part says -/
structure KM where
  K : PySem.W.Frag
  mg : Str → Option Value
/-- a tree: data; a read-only list of ints (the script); a global by its name; a built-in type -/
inductive T where
  | non | bl (b : Bool) | int (i : Int) | str (x : Str) | tup (l : List T) | lst (l : List T) | dic (ks ws : List T) | fro (l : List Int) | fn (x : Str) | ty (n : String)
mutual
def Is (C : KM) (H : Hp) : T → V → Prop
  | .non, v => v = .non
  | .bl b, v => v = .bl b
  | .int i, v => v = .int i
  | .str x, v => v = .str x
  | .tup l, v => ∃ a vs, v = .ref a ∧ SqT C.K H a vs ∧ IsL C H l vs
  | .lst l, v => ∃ a vs, v = .ref a ∧ H a = some (.lst vs) ∧ IsL C H l vs
  | .dic ks ws, v => ∃ a kvs, v = .ref a ∧ H a = some (.dK kvs) ∧ IsL C H ks (kvs.map fun p => kV p.1) ∧ IsL C H ws (kvs.map fun p => p.2)
  | .fro ns, v => ∃ a, v = .ref a ∧ SqL C.K H a (ns.map V.int)
  | .fn x, v => ∃ u, C.mg x = some u ∧ RelV v u
  | .ty n, v => v = .ty n
def IsL (C : KM) (H : Hp) : List T → List V → Prop
  | [], vs => vs = []
  | t :: ts, vs => ∃ v r, vs = v :: r ∧ Is C H t v ∧ IsL C H ts r
end
mutual
theorem Is.mono {C : KM} {H H' : Hp} (e : Ex H H') : ∀ (t : T) (v : V), Is C H t v → Is C H' t v
  | .non, _, h => by unfold Is at h ⊢; exact h
  | .bl _, _, h => by unfold Is at h ⊢; exact h
  | .int _, _, h => by unfold Is at h ⊢; exact h
  | .str _, _, h => by unfold Is at h ⊢; exact h
  | .tup l, _, h => by
    unfold Is at h ⊢
    obtain ⟨a, vs, h1, h2, h3⟩ := h
    exact ⟨a, vs, h1, ex_t e h2, IsL.mono e l vs h3⟩
  | .lst l, _, h => by
    unfold Is at h ⊢
    obtain ⟨a, vs, h1, h2, h3⟩ := h
    exact ⟨a, vs, h1, e _ _ h2, IsL.mono e l vs h3⟩
  | .dic ks ws, _, h => by
    unfold Is at h ⊢
    obtain ⟨a, kvs, h1, h2, h3, h4⟩ := h
    exact ⟨a, kvs, h1, e _ _ h2, IsL.mono e ks _ h3, IsL.mono e ws _ h4⟩
  | .fro _, _, h => by
    unfold Is at h ⊢
    obtain ⟨a, h1, h2⟩ := h
    exact ⟨a, h1, ex_l e h2⟩
  | .fn _, _, h => by unfold Is at h ⊢; exact h
  | .ty _, _, h => by unfold Is at h ⊢; exact h
theorem IsL.mono {C : KM} {H H' : Hp} (e : Ex H H') : ∀ (ts : List T) (vs : List V), IsL C H ts vs → IsL C H' ts vs
  | [], _, h => by unfold IsL at h ⊢; exact h
  | t :: ts, _, h => by
    unfold IsL at h ⊢
    obtain ⟨v, r, h1, h2, h3⟩ := h
    exact ⟨v, r, h1, Is.mono e t v h2, IsL.mono e ts r h3⟩
end
theorem IsL.length {C : KM} {H : Hp} : ∀ {ts : List T} {vs : List V}, IsL C H ts vs → ts.length = vs.length
  | [], _, h => by
    unfold IsL at h
    subst h
    rfl
  | t :: ts, _, h => by
    unfold IsL at h
    obtain ⟨v, r, rfl, _, h3⟩ := h
    show ts.length + 1 = r.length + 1
    rw [IsL.length h3]
theorem IsL.get {C : KM} {H : Hp} : ∀ {ts : List T} {vs : List V} {i : Nat} {t : T}, IsL C H ts vs → ts[i]? = some t → ∃ v, vs[i]? = some v ∧ Is C H t v
  | [], _, _, _, _, e => by simp at e
  | t :: ts, _, 0, _, h, e => by
    unfold IsL at h
    obtain ⟨v, r, rfl, h2, _⟩ := h
    have e' : t = _ := Option.some.inj e
    subst e'
    exact ⟨v, rfl, h2⟩
  | t :: ts, _, i + 1, u, h, e => by
    unfold IsL at h
    obtain ⟨v, r, rfl, _, h3⟩ := h
    exact IsL.get (i := i) (t := u) h3 e
theorem IsL.getV {C : KM} {H : Hp} : ∀ {ts : List T} {vs : List V} {i : Nat} {v : V}, IsL C H ts vs → vs[i]? = some v → ∃ t, ts[i]? = some t ∧ Is C H t v
  | [], _, _, _, h, e => by
    unfold IsL at h
    subst h
    simp at e
  | t :: ts, _, 0, _, h, e => by
    unfold IsL at h
    obtain ⟨v, r, rfl, h2, _⟩ := h
    have e' : v = _ := Option.some.inj e
    subst e'
    exact ⟨t, rfl, h2⟩
  | t :: ts, _, i + 1, u, h, e => by
    unfold IsL at h
    obtain ⟨v, r, rfl, _, h3⟩ := h
    exact IsL.getV (i := i) (v := u) h3 e
theorem IsL.app {C : KM} {H : Hp} : ∀ {ts us : List T} {vs ws : List V}, IsL C H ts vs → IsL C H us ws → IsL C H (ts ++ us) (vs ++ ws)
  | [], _, _, _, h, k => by
    unfold IsL at h
    subst h
    exact k
  | t :: ts, us, _, ws, h, k => by
    unfold IsL at h
    obtain ⟨v, r, rfl, h2, h3⟩ := h
    show IsL C H (t :: (ts ++ us)) (v :: (r ++ ws))
    unfold IsL
    exact ⟨v, _, rfl, h2, IsL.app h3 k⟩
theorem IsL.one {C : KM} {H : Hp} {t : T} {v : V} (h : Is C H t v) : IsL C H [t] [v] := by
  unfold IsL
  exact ⟨v, [], rfl, h, by unfold IsL; rfl⟩
theorem IsL.cons {C : KM} {H : Hp} {t : T} {v : V} {ts : List T} {vs : List V} (h : Is C H t v) (k : IsL C H ts vs) : IsL C H (t :: ts) (v :: vs) := by
  unfold IsL
  exact ⟨v, vs, rfl, h, k⟩
theorem IsL.nil {C : KM} {H : Hp} : IsL C H [] [] := by unfold IsL; rfl
theorem IsL.take {C : KM} {H : Hp} : ∀ {ts : List T} {vs : List V} (n : Nat), IsL C H ts vs → IsL C H (ts.take n) (vs.take n)
  | _, _, 0, _ => by
    rw [List.take_zero, List.take_zero]
    exact IsL.nil
  | [], _, n + 1, h => by
    unfold IsL at h
    subst h
    exact IsL.nil
  | t :: ts, _, n + 1, h => by
    unfold IsL at h
    obtain ⟨v, r, rfl, h2, h3⟩ := h
    exact IsL.cons h2 (IsL.take n h3)
theorem IsL.drop {C : KM} {H : Hp} : ∀ {ts : List T} {vs : List V} (n : Nat), IsL C H ts vs → IsL C H (ts.drop n) (vs.drop n)
  | _, _, 0, h => h
  | [], _, n + 1, h => by
    unfold IsL at h
    subst h
    exact IsL.nil
  | t :: ts, _, n + 1, h => by
    unfold IsL at h
    obtain ⟨v, r, rfl, h2, h3⟩ := h
    exact IsL.drop n h3
theorem IsL.set {C : KM} {H : Hp} {t : T} {v : V} (k : Is C H t v) : ∀ {ts : List T} {vs : List V} (n : Nat), IsL C H ts vs → IsL C H (ts.set n t) (vs.set n v)
  | [], _, n, h => by
    unfold IsL at h
    subst h
    exact IsL.nil
  | _ :: ts, _, 0, h => by
    unfold IsL at h
    obtain ⟨_, r, rfl, h2, h3⟩ := h
    exact IsL.cons k h3
  | _ :: ts, _, n + 1, h => by
    unfold IsL at h
    obtain ⟨_, r, rfl, h2, h3⟩ := h
    exact IsL.cons h2 (IsL.set k n h3)
theorem IsL.nil_iff {C : KM} {H : Hp} {ts : List T} {vs : List V} (h : IsL C H ts vs) : vs = [] ↔ ts = [] := by
  have e := h.length
  cases ts with
  | nil => cases vs with
    | nil => simp
    | cons a r => simp at e
  | cons t r => cases vs with
    | nil => simp at e
    | cons a r => simp

/-! ### growth -/
structure Gr (H G H' G' : Hp) : Prop where
  eh : Ex H H'
  eg : Ex G G'
  gh : Ex G' H'
  sep : ∀ a o, G a = none → H a = some o → G' a = none
theorem Gr.refl {H G : Hp} (e : Ex G H) : Gr H G H G := ⟨Ex.refl _, Ex.refl _, e, fun _ _ h _ => h⟩
theorem Gr.trans {H G H1 G1 H2 G2 : Hp} (a : Gr H G H1 G1) (b : Gr H1 G1 H2 G2) : Gr H G H2 G2 :=
  ⟨a.eh.trans b.eh, a.eg.trans b.eg, b.gh, fun x o g h => b.sep x o (a.sep x o g h) (a.eh x o h)⟩
theorem ex_none {G H : Hp} {p : Addr} (e : Ex G H) (h : H p = none) : G p = none := fresh_back e h
theorem Ex.upd2 {G H : Hp} {p : Addr} {o : HO} (e : Ex G H) : Ex (upd G p o) (upd H p o) := fun a u h => by
  by_cases z : a = p
  · subst z
    rw [upd_same] at h ⊢
    exact h
  · rw [upd_ne z] at h ⊢
    exact e a u h
/-- a new object that is shared -/
theorem Gr.new {H G : Hp} {p : Addr} {o : HO} (e : Ex G H) (h : H p = none) : Gr H G (upd H p o) (upd G p o) :=
  ⟨Ex.new h, Ex.new (ex_none e h), Ex.upd2 e, fun a u g k => by rw [upd_ne (ne_of_none k h)]; exact g⟩
/-- a new object that is one's own -/
theorem Gr.own {H G : Hp} {p : Addr} {o : HO} (e : Ex G H) (h : H p = none) : Gr H G (upd H p o) G :=
  ⟨Ex.new h, Ex.refl _, e.trans (Ex.new h), fun a u g k => g⟩
/-- the new object is shared later -/
theorem Gr.frz {H G H' G' : Hp} {p : Addr} {o : HO} (g : Gr H G H' G') (h : H p = none) (h' : H' p = some o) (n : G' p = none) : Gr H G H' (upd G' p o) :=
  ⟨g.eh, g.eg.trans (Ex.new n), fun a u k => by
    by_cases z : a = p
    · subst z
      rw [upd_same] at k
      rw [← k]
      exact h'
    · rw [upd_ne z] at k
      exact g.gh a u k, fun a u k l => by
    rw [upd_ne (ne_of_none l h)]
    exact g.sep a u k l⟩

/-! ### how a value is held: E shared, S readable (its parts shared), N new and one's own (its parts shared) -/
def IsO (C : KM) (G : Hp) (t : T) (o : HO) : Prop :=
  match t with
  | .lst l => ∃ vs, o = .lst vs ∧ IsL C G l vs
  | .dic ks ws => ∃ kvs, o = .dK kvs ∧ IsL C G ks (kvs.map fun p => kV p.1) ∧ IsL C G ws (kvs.map fun p => p.2)
  | _ => False
theorem IsO.mono {C : KM} {G G' : Hp} {t : T} {o : HO} (e : Ex G G') (h : IsO C G t o) : IsO C G' t o := by
  cases t with
  | lst l =>
    obtain ⟨vs, rfl, k⟩ := h
    exact ⟨vs, rfl, IsL.mono e _ _ k⟩
  | dic ks ws =>
    obtain ⟨kvs, rfl, k, k'⟩ := h
    exact ⟨kvs, rfl, IsL.mono e _ _ k, IsL.mono e _ _ k'⟩
  | _ => exact h.elim
theorem IsO.is {C : KM} {G : Hp} {t : T} {o : HO} {a : Addr} (h : IsO C G t o) (k : G a = some o) : Is C G t (.ref a) := by
  cases t with
  | lst l =>
    obtain ⟨vs, rfl, q⟩ := h
    unfold Is
    exact ⟨a, vs, rfl, k, q⟩
  | dic ks ws =>
    obtain ⟨kvs, rfl, q, q'⟩ := h
    unfold Is
    exact ⟨a, kvs, rfl, k, q, q'⟩
  | _ => exact h.elim
def IsS (C : KM) (H G : Hp) (t : T) (v : V) : Prop := Is C G t v ∨ ∃ a o, v = .ref a ∧ H a = some o ∧ IsO C G t o
theorem IsS.mono {C : KM} {H G H' G' : Hp} {t : T} {v : V} (g : Gr H G H' G') (h : IsS C H G t v) : IsS C H' G' t v := by
  rcases h with h | ⟨a, o, e, h1, h2⟩
  · exact .inl (Is.mono g.eg _ _ h)
  · exact .inr ⟨a, o, e, g.eh _ _ h1, h2.mono g.eg⟩
theorem IsS.is {C : KM} {H G : Hp} {t : T} {v : V} (e : Ex G H) (h : IsS C H G t v) : Is C H t v := by
  rcases h with h | ⟨a, o, rfl, h1, h2⟩
  · exact Is.mono e _ _ h
  · exact (h2.mono e).is h1
inductive Md where | E | S | N
def Md.Is (C : KM) (m : Md) (t : T) (v : V) (H H' G' : Hp) : Prop :=
  match m with
  | .E => VS.Is C G' t v
  | .S => IsS C H' G' t v
  | .N => ∃ a o, v = .ref a ∧ H a = none ∧ H' a = some o ∧ G' a = none ∧ IsO C G' t o
theorem Md.Is.back {C : KM} {m : Md} {t : T} {v : V} {H G H1 G1 H' G' : Hp} (g : Gr H G H1 G1) (h : m.Is C t v H1 H' G') : m.Is C t v H H' G' := by
  cases m with
  | E => exact h
  | S => exact h
  | N =>
    obtain ⟨a, o, h1, h2, h3⟩ := h
    exact ⟨a, o, h1, fresh_back g.eh h2, h3⟩
theorem Md.Is.shal {C : KM} {m : Md} {t : T} {v : V} {H H' G' : Hp} (h : m.Is C t v H H' G') : IsS C H' G' t v := by
  cases m with
  | E => exact .inl h
  | S => exact h
  | N =>
    obtain ⟨a, o, h1, h2, h3, h4, h5⟩ := h
    exact .inr ⟨a, o, h1, h3, h5⟩

/-! ### things of one's own that hold others -/
mutual
/-- a tree as a key of a dict -/
def nk? : T → Option NestedKey
  | .non => some .none
  | .int i => some (.num i)
  | .str x => some (.text x)
  | .tup l => (nks? l).map .tup
  | _ => none
def nks? : List T → Option (List NestedKey)
  | [] => some []
  | t :: ts => match nk? t, nks? ts with
    | some k, some ks => some (k :: ks)
    | _, _ => none
end
/-- a tuple that is a key -/
def tk? (t : T) : Option NestedKey := match t with
  | .tup l => (match nks? l with | some ks => if (NestedKey.tup ks).depth ≤ 8 then some (.tup ks) else none | none => none)
  | _ => none
/-- a dict whose keys are tuples, also nested ones: its entries -/
def NdAt (w : World) (a : Addr) (xs : List (NestedKey × Addr × Value)) (h : Heap) : Prop :=
  ∃ o es ep, h.get? a = some o ∧ o.ExactDict ∧ o.data = .dict es ep ∧ es.toList = xs.map (fun x => (⟨x.1.hash w, .ref x.2.1, x.2.2⟩ : DictEntry)) ∧ (xs.map (·.1)).Nodup
def NdO (w : World) (a : Addr) (xs : List (NestedKey × Addr × Value)) : HO := .ext (NdAt w a xs)
/-- a thing of one's own: a shared tree in it; a list, a dict with keys that are tuples, a dict with keys that are ints or texts, all of shared trees; an instance, a list, a tuple of things of one's own -/
inductive D where
  | sh (t : T) | ls (l : List T) | dt (ks ws : List T) | dk (ks ws : List T) | ob (c : Str) (ns : List Str) (ds : List D) | dl (ds : List D) | tp (ds : List D)
def KeysAre (ks : List T) (xs : List (NestedKey × Addr × Value)) : Prop := Paired (fun t (x : NestedKey × Addr × Value) => tk? t = some x.1) ks xs
mutual
/-- v is d, what it holds of its own stands at F -/
def Dv (C : KM) (w : World) (H G : Hp) : D → V → List Addr → Prop
  | .sh t, v, F => Is C G t v ∧ F = []
  | .ls l, v, F => ∃ a vs, v = .ref a ∧ H a = some (.lst vs) ∧ IsL C G l vs ∧ F = [a]
  | .dt ks ws, v, F => ∃ a xs vs, v = .ref a ∧ (a == sysModules) = false ∧ H a = some (NdO w a xs) ∧ xs.length ≤ sizeLine ∧ KeysAre ks xs ∧ IsL C G ks (xs.map fun x => .ref x.2.1) ∧ L2.Vals vs (xs.map fun x => x.2.2) ∧ IsL C G ws vs ∧ F = [a]
  | .dk ks ws, v, F => ∃ a kvs, v = .ref a ∧ H a = some (.dK kvs) ∧ IsL C G ks (kvs.map fun p => kV p.1) ∧ IsL C G ws (kvs.map fun p => p.2) ∧ F = [a]
  | .ob c ns ds, v, F => ∃ a Cc dx vs F', v = .ref a ∧ C.mg c = some (.ref Cc) ∧ H a = some (.ins Cc dx (ns.zip vs)) ∧ H dx = some (.own a) ∧ ns.length = vs.length ∧ DvL C w H G ds vs F' ∧ F = a :: dx :: F'
  | .dl ds, v, F => ∃ a vs F', v = .ref a ∧ H a = some (.lst vs) ∧ DvL C w H G ds vs F' ∧ F = a :: F'
  | .tp ds, v, F => ∃ a vs, v = .ref a ∧ G a = some (.tup vs) ∧ DvL C w H G ds vs F
def DvL (C : KM) (w : World) (H G : Hp) : List D → List V → List Addr → Prop
  | [], vs, F => vs = [] ∧ F = []
  | d :: ds, vs, F => ∃ v r F1 F2, vs = v :: r ∧ Dv C w H G d v F1 ∧ DvL C w H G ds r F2 ∧ F = F1 ++ F2
end
mutual
theorem Dv.mono {C : KM} {w : World} {H G H' G' : Hp} (eg : Ex G G') : ∀ (d : D) (v : V) (F : List Addr), (∀ x ∈ F, ∀ o, H x = some o → H' x = some o) → Dv C w H G d v F → Dv C w H' G' d v F
  | .sh t, v, F, k, h => by
    unfold Dv at h ⊢
    exact ⟨Is.mono eg _ _ h.1, h.2⟩
  | .ls l, v, F, k, h => by
    unfold Dv at h ⊢
    obtain ⟨a, vs, h1, h2, h3, rfl⟩ := h
    exact ⟨a, vs, h1, k a (by simp) _ h2, IsL.mono eg _ _ h3, rfl⟩
  | .dt ks ws, v, F, k, h => by
    unfold Dv at h ⊢
    obtain ⟨a, xs, vs, h1, h2, h3, h4, h5, h6, h7, h8, rfl⟩ := h
    exact ⟨a, xs, vs, h1, h2, k a (by simp) _ h3, h4, h5, IsL.mono eg _ _ h6, h7, IsL.mono eg _ _ h8, rfl⟩
  | .dk ks ws, v, F, k, h => by
    unfold Dv at h ⊢
    obtain ⟨a, kvs, h1, h2, h3, h4, rfl⟩ := h
    exact ⟨a, kvs, h1, k a (by simp) _ h2, IsL.mono eg _ _ h3, IsL.mono eg _ _ h4, rfl⟩
  | .ob c ns ds, v, F, k, h => by
    unfold Dv at h ⊢
    obtain ⟨a, Cc, dx, vs, F', h1, h2, h3, h4, h5, h6, rfl⟩ := h
    exact ⟨a, Cc, dx, vs, F', h1, h2, k a (by simp) _ h3, k dx (by simp) _ h4, h5, DvL.mono eg ds vs F' (fun x m => k x (List.mem_cons_of_mem _ (List.mem_cons_of_mem _ m))) h6, rfl⟩
  | .dl ds, v, F, k, h => by
    unfold Dv at h ⊢
    obtain ⟨a, vs, F', h1, h2, h3, rfl⟩ := h
    exact ⟨a, vs, F', h1, k a (by simp) _ h2, DvL.mono eg ds vs F' (fun x m => k x (List.mem_cons_of_mem _ m)) h3, rfl⟩
  | .tp ds, v, F, k, h => by
    unfold Dv at h ⊢
    obtain ⟨a, vs, h1, h2, h3⟩ := h
    exact ⟨a, vs, h1, eg _ _ h2, DvL.mono eg ds vs F k h3⟩
theorem DvL.mono {C : KM} {w : World} {H G H' G' : Hp} (eg : Ex G G') : ∀ (ds : List D) (vs : List V) (F : List Addr), (∀ x ∈ F, ∀ o, H x = some o → H' x = some o) → DvL C w H G ds vs F → DvL C w H' G' ds vs F
  | [], _, _, _, h => by
    unfold DvL at h ⊢
    exact h
  | d :: ds, _, _, k, h => by
    unfold DvL at h ⊢
    obtain ⟨v, r, F1, F2, rfl, h1, h2, rfl⟩ := h
    exact ⟨v, r, F1, F2, rfl, Dv.mono eg d v F1 (fun x m => k x (List.mem_append_left _ m)) h1, DvL.mono eg ds r F2 (fun x m => k x (List.mem_append_right _ m)) h2, rfl⟩
end
mutual
theorem Dv.there {C : KM} {w : World} {H G : Hp} : ∀ (d : D) (v : V) (F : List Addr), Dv C w H G d v F → ∀ x ∈ F, ∃ o, H x = some o
  | .sh t, v, F, h => by
    unfold Dv at h
    obtain ⟨_, rfl⟩ := h
    intro x m
    cases m
  | .ls l, v, F, h => by
    unfold Dv at h
    obtain ⟨a, vs, h1, h2, h3, rfl⟩ := h
    intro x m
    rw [List.mem_singleton.mp m]
    exact ⟨_, h2⟩
  | .dt ks ws, v, F, h => by
    unfold Dv at h
    obtain ⟨a, xs, vs, h1, h2, h3, h4, h5, h6, h7, h8, rfl⟩ := h
    intro x m
    rw [List.mem_singleton.mp m]
    exact ⟨_, h3⟩
  | .dk ks ws, v, F, h => by
    unfold Dv at h
    obtain ⟨a, kvs, h1, h2, h3, h4, rfl⟩ := h
    intro x m
    rw [List.mem_singleton.mp m]
    exact ⟨_, h2⟩
  | .ob c ns ds, v, F, h => by
    unfold Dv at h
    obtain ⟨a, Cc, dx, vs, F', h1, h2, h3, h4, h5, h6, rfl⟩ := h
    intro x m
    rcases List.mem_cons.mp m with rfl | m
    · exact ⟨_, h3⟩
    · rcases List.mem_cons.mp m with rfl | m
      · exact ⟨_, h4⟩
      · exact DvL.there ds vs F' h6 x m
  | .dl ds, v, F, h => by
    unfold Dv at h
    obtain ⟨a, vs, F', h1, h2, h3, rfl⟩ := h
    intro x m
    rcases List.mem_cons.mp m with rfl | m
    · exact ⟨_, h2⟩
    · exact DvL.there ds vs F' h3 x m
  | .tp ds, v, F, h => by
    unfold Dv at h
    obtain ⟨a, vs, h1, h2, h3⟩ := h
    exact DvL.there ds vs F h3
theorem DvL.there {C : KM} {w : World} {H G : Hp} : ∀ (ds : List D) (vs : List V) (F : List Addr), DvL C w H G ds vs F → ∀ x ∈ F, ∃ o, H x = some o
  | [], _, _, h => by
    unfold DvL at h
    obtain ⟨_, rfl⟩ := h
    intro x m
    cases m
  | d :: ds, _, _, h => by
    unfold DvL at h
    obtain ⟨v, r, F1, F2, rfl, h1, h2, rfl⟩ := h
    intro x m
    rcases List.mem_append.mp m with m | m
    · exact Dv.there d v F1 h1 x m
    · exact DvL.there ds r F2 h2 x m
end
theorem zip_inj {α β : Type} : ∀ {ns : List α} {xs ys : List β}, ns.length = xs.length → ns.length = ys.length → ns.zip xs = ns.zip ys → xs = ys
  | [], [], [], _, _, _ => rfl
  | n :: ns, x :: xs, y :: ys, h, k, e => by
    rw [List.zip_cons_cons, List.zip_cons_cons] at e
    obtain ⟨e1, e2⟩ := List.cons.inj e
    rw [(Prod.mk.inj e1).2, zip_inj (Nat.succ.inj h) (Nat.succ.inj k) e2]
mutual
theorem Dv.det {C : KM} {w : World} {H G H' G' : Hp} (eg : Ex G G') : ∀ (d : D) (v : V) (F F' : List Addr), (∀ x ∈ F, ∀ o, H x = some o → H' x = some o) → Dv C w H G d v F → Dv C w H' G' d v F' → F = F'
  | .sh t, v, F, F', _, h, k => by
    unfold Dv at h k
    rw [h.2, k.2]
  | .ls l, v, F, F', _, h, k => by
    unfold Dv at h k
    obtain ⟨a, vs, rfl, h2, h3, rfl⟩ := h
    obtain ⟨b, ws, e, k2, k3, rfl⟩ := k
    cases e
    rfl
  | .dt ks ws, v, F, F', _, h, k => by
    unfold Dv at h k
    obtain ⟨a, xs, vs, rfl, h2, h3, h4, h5, h6, h7, h8, rfl⟩ := h
    obtain ⟨b, xs', vs', e, k2, k3, k4, k5, k6, k7, k8, rfl⟩ := k
    cases e
    rfl
  | .dk ks ws, v, F, F', _, h, k => by
    unfold Dv at h k
    obtain ⟨a, kvs, rfl, h2, h3, h4, rfl⟩ := h
    obtain ⟨b, kvs', e, k2, k3, k4, rfl⟩ := k
    cases e
    rfl
  | .ob c ns ds, v, F, F', s, h, k => by
    unfold Dv at h k
    obtain ⟨a, Cc, dx, vs, F1, rfl, h2, h3, h4, h5, h6, rfl⟩ := h
    obtain ⟨b, Cc', dx', vs', F1', e, k2, k3, k4, k5, k6, rfl⟩ := k
    cases e
    have q := (s a (by simp) _ h3).symm.trans k3
    injection q with q
    injection q with q1 q2 q3
    subst q2
    have ev := zip_inj h5 k5 q3
    subst ev
    rw [DvL.det eg ds vs F1 F1' (fun x m => s x (List.mem_cons_of_mem _ (List.mem_cons_of_mem _ m))) h6 k6]
  | .dl ds, v, F, F', s, h, k => by
    unfold Dv at h k
    obtain ⟨a, vs, F1, rfl, h2, h3, rfl⟩ := h
    obtain ⟨b, vs', F1', e, k2, k3, rfl⟩ := k
    cases e
    have q := (s a (by simp) _ h2).symm.trans k2
    injection q with q
    injection q with q
    subst q
    rw [DvL.det eg ds vs F1 F1' (fun x m => s x (List.mem_cons_of_mem _ m)) h3 k3]
  | .tp ds, v, F, F', s, h, k => by
    unfold Dv at h k
    obtain ⟨a, vs, rfl, h2, h3⟩ := h
    obtain ⟨b, vs', e, k2, k3⟩ := k
    cases e
    have q := (eg _ _ h2).symm.trans k2
    injection q with q
    injection q with q
    subst q
    exact DvL.det eg ds vs F F' s h3 k3
theorem DvL.det {C : KM} {w : World} {H G H' G' : Hp} (eg : Ex G G') : ∀ (ds : List D) (vs : List V) (F F' : List Addr), (∀ x ∈ F, ∀ o, H x = some o → H' x = some o) → DvL C w H G ds vs F → DvL C w H' G' ds vs F' → F = F'
  | [], _, _, _, _, h, k => by
    unfold DvL at h k
    rw [h.2, k.2]
  | d :: ds, _, _, _, s, h, k => by
    unfold DvL at h k
    obtain ⟨v, r, F1, F2, rfl, h1, h2, rfl⟩ := h
    obtain ⟨v', r', F1', F2', e, k1, k2, rfl⟩ := k
    cases e
    rw [Dv.det eg d v F1 F1' (fun x m => s x (List.mem_append_left _ m)) h1 k1, DvL.det eg ds r F2 F2' (fun x m => s x (List.mem_append_right _ m)) h2 k2]
end

/-! ### results, frames -/
inductive Res (α : Type) where
  | ok (a : α) | ex (x : Str) (p : List T) | bad
def Res.bind {α β : Type} (r : Res α) (f : α → Res β) : Res β :=
  match r with
  | .ok a => f a
  | .ex x p => .ex x p
  | .bad => .bad
def Res.of {α : Type} (o : Option α) : Res α := match o with | some a => .ok a | none => .bad
/-- a slot: nothing; a shared tree; an object of one's own; an exception that a suite holds -/
inductive Sl where
  | un | sh (t : T) | ow (t : T) | xn (x : Str) (p : List T) | dp (d : D)
abbrev Ev' := List Sl
/-- an exception of the class x, its payload p -/
def XAt (C : KM) (x : Str) (p : List T) (cls : Value) (d : Option Addr) (H : Hp) : Prop :=
  ∃ D, C.mg x = some (.ref D) ∧ cls = .ref D ∧ match p with
    | [] => d = none
    | [t] => ∃ dd v, d = some dd ∧ H dd = some (.xd [(("shown" : Str), v)]) ∧ Is C H t v
    | _ => False
theorem XAt.mono {C : KM} {x : Str} {p : List T} {cls : Value} {d : Option Addr} {H H' : Hp} (e : Ex H H') (h : XAt C x p cls d H) : XAt C x p cls d H' := by
  obtain ⟨D, h1, h2, h3⟩ := h
  refine ⟨D, h1, h2, ?_⟩
  match p, h3 with
  | [], h3 => exact h3
  | [t], ⟨dd, v, a, b, c⟩ => exact ⟨dd, v, a, e _ _ b, Is.mono e _ _ c⟩
/-- a thing of one's own as a tree: to be told back -/
def encF : D → T
  | .sh t => .tup [t]
  | .ls l => .lst l
  | _ => .non
def enc : D → T
  | .dt ks ws => .tup [.int 0, .lst ks, .lst ws]
  | .ob c ns ds => .tup [.int 1, .str c, .lst (ns.map .str), .lst (ds.map encF)]
  | _ => .non
def decF : T → Option D
  | .tup [t] => some (.sh t)
  | .lst l => some (.ls l)
  | _ => none
def decFs : List T → Option (List D)
  | [] => some []
  | t :: ts => match decF t, decFs ts with
    | some d, some ds => some (d :: ds)
    | _, _ => none
def strs? : List T → Option (List Str)
  | [] => some []
  | .str x :: ts => (strs? ts).map (x :: ·)
  | _ => none
def dec (t : T) : Option D :=
  match t with
  | .tup [.int 0, .lst ks, .lst ws] => some (.dt ks ws)
  | .tup [.int 1, .str c, .lst ns, .lst fs] => (match strs? ns, decFs fs with | some ns, some ds => some (.ob c ns ds) | _, _ => none)
  | _ => none
/-- how what is returned is held: shared; new; a new thing of one's own; beside it what was lent at a is given back -/
inductive Rm where
  | E | N | D | B (a : Addr)
def Rm.Is (C : KM) (w : World) (r : Rm) (t : T) (v : V) (H H' G' : Hp) : Prop :=
  match r with
  | .E => Md.E.Is C t v H H' G'
  | .N => Md.N.Is C t v H H' G'
  | .D => ∃ d F, dec t = some d ∧ Dv C w H' G' d v F ∧ F.Nodup ∧ ∀ x ∈ F, H x = none ∧ G' x = none
  | .B a => ∃ u d F, t = .tup [u, enc d] ∧ dec (enc d) = some d ∧ VS.Is C G' u v ∧ Dv C w H' G' d (.ref a) F ∧ F.Nodup ∧ ∀ x ∈ F, H x = none ∧ G' x = none
/-- the entry: the heap, its shared part; the exception that a suite holds: its address, class, own dict; how what is returned is held; what is lent: its slot, its address -/
structure BS where
  h : Hp
  g : Hp
  xa : Option (Addr × Value × Option Addr)
  rm : Rm
  w : World
  bi : List (Nat × Addr)
/-- what the slots hold of their own, beside plain objects: it stands apart -/
def Dps (C : KM) (B : BS) (σ : L2.St) (H : Hp) (ρ : Ev') (G : Hp) : Prop :=
  ∃ Fp : Nat → List Addr, (∀ (i : Nat) (d : D), ρ[i]? = some (.dp d) → ∃ v, σ[i]? = some (some v) ∧ Dv C B.w H G d v (Fp i) ∧ (Fp i).Nodup ∧ ∀ x ∈ Fp i, B.1 x = none ∧ G x = none) ∧
    (∀ (i j : Nat) (d e : D) (x : Addr), i ≠ j → ρ[i]? = some (.dp d) → ρ[j]? = some (.dp e) → x ∈ Fp i → x ∈ Fp j → False) ∧
    (∀ (i j : Nat) (d : D) (t : T) (a : Addr), ρ[i]? = some (.dp d) → ρ[j]? = some (.ow t) → σ[j]? = some (some (.ref a)) → a ∉ Fp i) ∧
    ∀ p ∈ B.bi, ∀ d : D, ρ[p.1]? = some (.dp d) → σ[p.1]? = some (some (.ref p.2))
/-- the state: the frame's slots, the heap H, its shared part G; B: both at the entry -/
structure SR (C : KM) (B : BS) (σ : L2.St) (H : Hp) (ρ : Ev') (G : Hp) : Prop where
  gr : Gr B.1 B.2 H G
  sh : ∀ (i : Nat) (t : T), ρ[i]? = some (.sh t) → ∃ v, σ[i]? = some (some v) ∧ Is C G t v
  ow : ∀ (i : Nat) (t : T), ρ[i]? = some (.ow t) → ∃ a o, σ[i]? = some (some (.ref a)) ∧ B.1 a = none ∧ H a = some o ∧ G a = none ∧ IsO C G t o
  ds : ∀ (i j : Nat) (t u : T) (a : Addr), i ≠ j → ρ[i]? = some (.ow t) → ρ[j]? = some (.ow u) → σ[i]? = some (some (.ref a)) → σ[j]? = some (some (.ref a)) → False
  len : ρ.length = σ.length
  xn : ∀ (i : Nat) (x : Str) (p : List T), ρ[i]? = some (.xn x p) → ∃ a cls d, B.3 = some (a, cls, d) ∧ σ[i]? = some (some (.ref a)) ∧ XAt C x p cls d G
  dp : Dps C B σ H ρ G
theorem Dps.ext {C : KM} {B : BS} {σ : L2.St} {H G H' G' : Hp} {ρ : Ev'} (s : Dps C B σ H ρ G) (g : Gr H G H' G') : Dps C B σ H' ρ G' := by
  obtain ⟨Fp, h1, h2, h3, h4⟩ := s
  refine ⟨Fp, fun i d e => ?_, h2, h3, h4⟩
  obtain ⟨v, q1, q2, q3, q4⟩ := h1 i d e
  refine ⟨v, q1, q2.mono g.eg _ _ _ (fun x _ o z => g.eh x o z), q3, fun x m => ⟨(q4 x m).1, ?_⟩⟩
  obtain ⟨o, ho⟩ := q2.there _ _ _ x m
  exact g.sep x o (q4 x m).2 ho
theorem Dps.no {C : KM} {B : BS} {σ : L2.St} {H G : Hp} {ρ : Ev'} (h : ∀ (i : Nat) (d : D), ρ[i]? ≠ some (.dp d)) : Dps C B σ H ρ G :=
  ⟨fun _ => [], fun i d e => (h i d e).elim, fun i j d e x _ q => (h i d q).elim, fun i j d t a q => (h i d q).elim, fun p _ d q => (h p.1 d q).elim⟩
theorem SR.ext {C : KM} {B : BS} {σ : L2.St} {H G H' G' : Hp} {ρ : Ev'} (s : SR C B σ H ρ G) (g : Gr H G H' G') : SR C B σ H' ρ G' where
  gr := s.gr.trans g
  sh := fun i t e => let ⟨v, h1, h2⟩ := s.sh i t e; ⟨v, h1, Is.mono g.eg _ _ h2⟩
  ow := fun i t e => let ⟨a, o, h1, h2, h3, h4, h5⟩ := s.ow i t e; ⟨a, o, h1, h2, g.eh _ _ h3, g.sep _ _ h4 h3, h5.mono g.eg⟩
  ds := s.ds
  len := s.len
  xn := fun i x p e => let ⟨a, cls, d, h1, h2, h3⟩ := s.xn i x p e; ⟨a, cls, d, h1, h2, h3.mono g.eg⟩
  dp := s.dp.ext g
theorem SR.exGH {C : KM} {B : BS} {σ : L2.St} {H G : Hp} {ρ : Ev'} (s : SR C B σ H ρ G) : Ex G H := s.gr.gh

/-! ### expressions -/
abbrev FE := Ev' → Res T
def Post (C : KM) (m : Md) (W : WX) (σ : L2.St) (H G : Hp) (r : Res T) (Q : VK) : Prop :=
  match r with
  | .ok t => ∀ v H' G', Gr H G H' G' → m.Is C t v H H' G' → Q v H'
  | .ex x p => ∀ cls d H' G', Gr H G H' G' → XAt C x p cls d G' → W cls d σ H'
  | .bad => False
theorem Post.mono {C : KM} {m : Md} {W : WX} {σ : L2.St} {H G H1 G1 : Hp} {r : Res T} {Q : VK} (g : Gr H G H1 G1) (h : Post C m W σ H G r Q) : Post C m W σ H1 G1 r Q := by
  cases r with
  | ok t => exact fun v H' G' g' i => h v H' G' (g.trans g') (i.back g)
  | ex x p => exact fun cls d H' G' g' i => h cls d H' G' (g.trans g') i
  | bad => exact h
def tM (C : KM) (B : BS) (m : Md) (W : WX) (f : FE) : TE := fun σ H Q => ∃ ρ G, SR C B σ H ρ G ∧ Post C m W σ H G (f ρ) Q
def km (X : Cx) : KM := ⟨X.K, X.mg⟩
def DE (X : Cx) (B : BS) (W : WX) (m : Md) (e : Expr) (f : FE) : Prop := PE X e (tM (km X) B m W f)
theorem PE.imp {X : Cx} {e : Expr} {t t' : TE} (h : PE X e t) (i : ∀ σ H Q, t' σ H Q → t σ H Q) : PE X e t' := ⟨fun pins s σ H Q I q => h.run pins s σ H Q I (i σ H Q q)⟩
theorem PT.imp {X : Cx} {e : Expr} {t t' : TT} (h : PT X e t) (i : ∀ σ H Q, t' σ H Q → t σ H Q) : PT X e t' := ⟨fun pins s σ H Q I q => h.run pins s σ H Q I (i σ H Q q)⟩
theorem PA.imp {X : Cx} {e : List Expr} {t t' : TA} (h : PA X e t) (i : ∀ σ H Q, t' σ H Q → t σ H Q) : PA X e t' := ⟨fun pos pins s σ H Q I q => h.run pos pins s σ H Q I (i σ H Q q)⟩
theorem PS.imp {X : Cx} {e : Stmt} {t t' : TS} (h : PS X e t) (i : ∀ D σ H, t' D σ H → t D σ H) : PS X e t' := ⟨fun pins s σ H D I q => h.run pins s σ H D I (i D σ H q)⟩
theorem PSs.imp {X : Cx} {e : List Stmt} {t t' : TS} (h : PSs X e t) (i : ∀ D σ H, t' D σ H → t D σ H) : PSs X e t' := ⟨fun pins s σ H D I q => h.run pins s σ H D I (i D σ H q)⟩

section
variable {C : KM} {B : BS} {m : Md} {W : WX} {σ : L2.St} {H G : Hp} {ρ : Ev'} {Q : VK} {Q1 : VK}
/-- an operand, then what follows -/
theorem bindS {fa : FE} {k : T → Res T} (h : SR C B σ H ρ G) (p : Post C m W σ H G ((fa ρ).bind k) Q)
    (c : ∀ t v H1 G1, Gr H G H1 G1 → SR C B σ H1 ρ G1 → IsS C H1 G1 t v → Post C m W σ H1 G1 (k t) Q → Q1 v H1) : tM C B .S W fa σ H Q1 := by
  refine ⟨ρ, G, h, ?_⟩
  cases e : fa ρ with
  | ok t =>
    rw [e] at p
    exact fun v H' G' g i => c t v H' G' g (h.ext g) i (p.mono g)
  | ex x p' =>
    rw [e] at p
    exact p
  | bad =>
    rw [e] at p
    exact p.elim
theorem bindE {fa : FE} {k : T → Res T} (h : SR C B σ H ρ G) (p : Post C m W σ H G ((fa ρ).bind k) Q)
    (c : ∀ t v H1 G1, Gr H G H1 G1 → SR C B σ H1 ρ G1 → Is C G1 t v → Post C m W σ H1 G1 (k t) Q → Q1 v H1) : tM C B .E W fa σ H Q1 := by
  refine ⟨ρ, G, h, ?_⟩
  cases e : fa ρ with
  | ok t =>
    rw [e] at p
    exact fun v H' G' g i => c t v H' G' g (h.ext g) i (p.mono g)
  | ex x p' =>
    rw [e] at p
    exact p
  | bad =>
    rw [e] at p
    exact p.elim
end
section
variable {X : Cx} {B : BS} {W : WX} {e : Expr} {f : FE}
theorem d_S (h : DE X B W .E e f) : DE X B W .S e f := PE.imp h fun σ H Q ⟨ρ, G, s, p⟩ => ⟨ρ, G, s, by
  cases r : f ρ with
  | ok t =>
    rw [r] at p
    exact fun v H' G' g i => p v H' G' g (.inl i)
  | ex x q =>
    rw [r] at p
    exact p
  | bad =>
    rw [r] at p
    exact p⟩
theorem d_NS (h : DE X B W .N e f) : DE X B W .S e f := PE.imp h fun σ H Q ⟨ρ, G, s, p⟩ => ⟨ρ, G, s, by
  cases r : f ρ with
  | ok t =>
    rw [r] at p
    exact fun v H' G' g i => p v H' G' g (Md.Is.shal i)
  | ex x q =>
    rw [r] at p
    exact p
  | bad =>
    rw [r] at p
    exact p⟩
theorem d_NE (h : DE X B W .N e f) : DE X B W .E e f := PE.imp h fun σ H Q ⟨ρ, G, s, p⟩ => ⟨ρ, G, s, by
  cases r : f ρ with
  | ok t =>
    rw [r] at p
    intro v H' G' g i
    obtain ⟨a, o, e1, h1, h2, h3, h4⟩ := i
    subst e1
    exact p _ H' (upd G' a o) (g.frz h1 h2 h3) ((h4.mono (Ex.new h3)).is upd_same)
  | ex x q =>
    rw [r] at p
    exact p
  | bad =>
    rw [r] at p
    exact p⟩

/-! ### constants, names -/
def eC (t : T) : FE := fun _ => .ok t
theorem d_int {i : Int} {j pos} : DE X B W .E (.Constant (.int i) j pos) (eC (.int i)) := PE.imp pe_int fun σ H Q ⟨ρ, G, s, p⟩ => p _ H G (Gr.refl s.exGH) (by show Is _ _ _ _; unfold Is; rfl)
theorem d_bl {b : Bool} {j pos} : DE X B W .E (.Constant (.bool b) j pos) (eC (.bl b)) := PE.imp pe_bl fun σ H Q ⟨ρ, G, s, p⟩ => p _ H G (Gr.refl s.exGH) (by show Is _ _ _ _; unfold Is; rfl)
theorem d_non {j pos} : DE X B W .E (.Constant .none j pos) (eC .non) := PE.imp pe_non fun σ H Q ⟨ρ, G, s, p⟩ => p _ H G (Gr.refl s.exGH) (by show Is _ _ _ _; unfold Is; rfl)
theorem d_str {x : Str} {j pos} : DE X B W .E (.Constant (.str x) j pos) (eC (.str x)) := PE.imp pe_str fun σ H Q ⟨ρ, G, s, p⟩ => p _ H G (Gr.refl s.exGH) (by show Is _ _ _ _; unfold Is; rfl)
/-- a shared name -/
def eV (i : Nat) : FE := fun ρ => match ρ[i]? with | some (.sh t) => .ok t | _ => .bad
/-- a name, shared or one's own, to be read -/
def eW (i : Nat) : FE := fun ρ => match ρ[i]? with | some (.sh t) => .ok t | some (.ow t) => .ok t | _ => .bad
theorem d_v (i : Nat) {x : Str} {pos : Pos} (hN : X.N[i]? = some x := by rfl) (hv : Vis X.env.scope x := by first | exact Or.inl rfl | exact Or.inr (Or.inl rfl) | exact Or.inr (Or.inr rfl)) (hd : (x == ("__debug__" : Str)) = false := by decide)
    (hcd : (x == ("__classdict__" : Str)) = false := by decide) : DE X B W .E (.Name x pos) (eV i) := PE.imp (pe_var hN hv hd hcd) fun σ H Q ⟨ρ, G, s, p⟩ => by
  unfold eV at p
  split at p
  · rename_i t e
    obtain ⟨v, h1, h2⟩ := s.sh i t e
    exact ⟨v, h1, p v H G (Gr.refl s.exGH) h2⟩
  · exact p.elim
theorem d_w (i : Nat) {x : Str} {pos : Pos} (hN : X.N[i]? = some x := by rfl) (hv : Vis X.env.scope x := by first | exact Or.inl rfl | exact Or.inr (Or.inl rfl) | exact Or.inr (Or.inr rfl)) (hd : (x == ("__debug__" : Str)) = false := by decide)
    (hcd : (x == ("__classdict__" : Str)) = false := by decide) : DE X B W .S (.Name x pos) (eW i) := PE.imp (pe_var hN hv hd hcd) fun σ H Q ⟨ρ, G, s, p⟩ => by
  unfold eW at p
  split at p
  · rename_i t e
    obtain ⟨v, h1, h2⟩ := s.sh i t e
    exact ⟨v, h1, p v H G (Gr.refl s.exGH) (.inl h2)⟩
  · rename_i t e
    obtain ⟨a, o, h1, h2, h3, h4, h5⟩ := s.ow i t e
    exact ⟨.ref a, h1, p _ H G (Gr.refl s.exGH) (.inr ⟨a, o, rfl, h3, h5⟩)⟩
  · exact p.elim
/-- a global of the text, by its name -/
theorem d_fn {x : Str} {v : V} {u : Value} {pos : Pos} (hg : Gl X x) (hm : X.mg x = some u) (r : RelV v u) (hd : (x == ("__debug__" : Str)) = false := by decide) : DE X B W .E (.Name x pos) (eC (.fn x)) :=
  PE.imp (pe_glob hg hm r hd) fun σ H Q ⟨ρ, G, s, p⟩ => p _ H G (Gr.refl s.exGH) (by show Is _ _ _ _; unfold Is; exact ⟨u, hm, r⟩)
/-- a global that holds a plain value -/
theorem d_gc {x : Str} {t : T} {v : V} {u : Value} {pos : Pos} (hg : Gl X x) (hm : X.mg x = some u) (r : RelV v u) (ht : ∀ G, Is (km X) G t v) (hd : (x == ("__debug__" : Str)) = false := by decide) : DE X B W .E (.Name x pos) (eC t) :=
  PE.imp (pe_glob hg hm r hd) fun σ H Q ⟨ρ, G, s, p⟩ => p _ H G (Gr.refl s.exGH) (ht G)
/-- a built-in type, by its name -/
theorem d_ty {x : Str} {n : String} {pos : Pos} (hg : Gl X x) (hm : X.mg x = none) (hv : bootBuiltins x = some (.type n)) (hn : x ≠ "__name__" := by decide) (hd : (x == ("__debug__" : Str)) = false := by decide) : DE X B W .E (.Name x pos) (eC (.ty n)) :=
  PE.imp (pe_bltn (v := .ty n) hg hm hv rfl hn hd) fun σ H Q ⟨ρ, G, s, p⟩ => p _ H G (Gr.refl s.exGH) (by show Is _ _ _ _; unfold Is; rfl)
end
end VS

namespace VS
open PySem PySem.Spec PyProof.Rows L2 Evl

/-! ### a value by its tree -/
section
variable {C : KM} {H G : Hp} {v : V}
theorem IsS.non (h : IsS C H G .non v) : v = .non := by
  rcases h with h | ⟨a, o, _, _, h⟩
  · unfold Is at h; exact h
  · exact h.elim
theorem IsS.bl {b : Bool} (h : IsS C H G (.bl b) v) : v = .bl b := by
  rcases h with h | ⟨a, o, _, _, h⟩
  · unfold Is at h; exact h
  · exact h.elim
theorem IsS.int {i : Int} (h : IsS C H G (.int i) v) : v = .int i := by
  rcases h with h | ⟨a, o, _, _, h⟩
  · unfold Is at h; exact h
  · exact h.elim
theorem IsS.str {x : Str} (h : IsS C H G (.str x) v) : v = .str x := by
  rcases h with h | ⟨a, o, _, _, h⟩
  · unfold Is at h; exact h
  · exact h.elim
theorem IsS.ty {x : String} (h : IsS C H G (.ty x) v) : v = .ty x := by
  rcases h with h | ⟨a, o, _, _, h⟩
  · unfold Is at h; exact h
  · exact h.elim
theorem IsS.fn {x : Str} (h : IsS C H G (.fn x) v) : ∃ u, C.mg x = some u ∧ RelV v u := by
  rcases h with h | ⟨a, o, _, _, h⟩
  · unfold Is at h; exact h
  · exact h.elim
theorem IsS.fro {x : List Int} (h : IsS C H G (.fro x) v) : ∃ a, v = .ref a ∧ SqL C.K G a (x.map V.int) := by
  rcases h with h | ⟨a, o, _, _, h⟩
  · unfold Is at h; exact h
  · exact h.elim
theorem IsS.tup {l : List T} (h : IsS C H G (.tup l) v) : ∃ a vs, v = .ref a ∧ SqT C.K G a vs ∧ IsL C G l vs := by
  rcases h with h | ⟨a, o, _, _, h⟩
  · unfold Is at h; exact h
  · exact h.elim
theorem IsS.lst {l : List T} (e : Ex G H) (h : IsS C H G (.lst l) v) : ∃ a vs, v = .ref a ∧ H a = some (.lst vs) ∧ IsL C G l vs := by
  rcases h with h | ⟨a, o, h1, h2, vs, rfl, h⟩
  · unfold Is at h
    obtain ⟨a, vs, h1, h2, h3⟩ := h
    exact ⟨a, vs, h1, e _ _ h2, h3⟩
  · exact ⟨a, vs, h1, h2, h⟩
theorem IsS.dic {ks ws : List T} (e : Ex G H) (h : IsS C H G (.dic ks ws) v) : ∃ a kvs, v = .ref a ∧ H a = some (.dK kvs) ∧ IsL C G ks (kvs.map fun p => kV p.1) ∧ IsL C G ws (kvs.map fun p => p.2) := by
  rcases h with h | ⟨a, o, h1, h2, vs, rfl, h, h'⟩
  · unfold Is at h
    obtain ⟨a, vs, h1, h2, h3⟩ := h
    exact ⟨a, vs, h1, e _ _ h2, h3⟩
  · exact ⟨a, vs, h1, h2, h, h'⟩
theorem Is.nonI : Is C G .non .non := by unfold Is; rfl
theorem Is.blI {b : Bool} : Is C G (.bl b) (.bl b) := by unfold Is; rfl
theorem Is.intI {b : Int} : Is C G (.int b) (.int b) := by unfold Is; rfl
theorem Is.strI {b : Str} : Is C G (.str b) (.str b) := by unfold Is; rfl
theorem Is.tupI {l : List T} {a : Addr} {vs : List V} (h : SqT C.K G a vs) (k : IsL C G l vs) : Is C G (.tup l) (.ref a) := by
  unfold Is; exact ⟨a, vs, rfl, h, k⟩
theorem Is.lstI {l : List T} {a : Addr} {vs : List V} (h : G a = some (.lst vs)) (k : IsL C G l vs) : Is C G (.lst l) (.ref a) := by
  unfold Is; exact ⟨a, vs, rfl, h, k⟩
/-- a new tuple, a new list, shared -/
theorem new_tup {l : List T} {p : Addr} {vs : List V} (e : Ex G H) (hp : H p = none) (k : IsL C G l vs) : Gr H G (upd H p (.tup vs)) (upd G p (.tup vs)) ∧ Is C (upd G p (.tup vs)) (.tup l) (.ref p) :=
  ⟨Gr.new e hp, Is.tupI (SqT.of upd_same) (IsL.mono (Ex.new (ex_none e hp)) _ _ k)⟩
theorem new_lst {l : List T} {p : Addr} {vs : List V} (e : Ex G H) (hp : H p = none) (k : IsL C G l vs) : Gr H G (upd H p (.lst vs)) (upd G p (.lst vs)) ∧ Is C (upd G p (.lst vs)) (.lst l) (.ref p) :=
  ⟨Gr.new e hp, Is.lstI upd_same (IsL.mono (Ex.new (ex_none e hp)) _ _ k)⟩
end

/-! ### equality of data -/
mutual
def eqT : T → T → Bool
  | .non, .non => true
  | .bl a, .bl b => a == b
  | .bl a, .int j => (if a then 1 else 0) == j
  | .int i, .bl b => i == (if b then 1 else 0)
  | .int i, .int j => i == j
  | .str x, .str y => x == y
  | .lst xs, .lst ys => eqTs xs ys
  | .tup xs, .tup ys => eqTs xs ys
  | _, _ => false
def eqTs : List T → List T → Bool
  | [], [] => true
  | x :: xs, y :: ys => eqT x y && eqTs xs ys
  | _, _ => false
end
mutual
def okD : Nat → T → Bool
  | _, .non => true
  | _, .bl _ => true
  | _, .int _ => true
  | _, .str x => x.cps.all (· < 0x110000)
  | n + 1, .lst xs => okDs n xs
  | n + 1, .tup xs => okDs n xs
  | _, _ => false
def okDs : Nat → List T → Bool
  | _, [] => true
  | n, x :: xs => okD n x && okDs n xs
end
mutual
def pd : T → PyData
  | .non => .none
  | .bl b => .bool b
  | .int i => .int i
  | .str x => .str x
  | .tup l => .tuple (pds l)
  | .lst l => .list (pds l)
  | _ => .none
def pds : List T → List PyData
  | [] => []
  | x :: xs => pd x :: pds xs
end
mutual
theorem okD_can : ∀ (n : Nat) (t : T), okD n t = true → (pd t).canLay0 = true ∧ (pd t).depth ≤ n + 1
  | n, .non, _ => ⟨rfl, by simp [pd, PyData.depth]⟩
  | n, .bl _, _ => ⟨rfl, by simp [pd, PyData.depth]⟩
  | n, .int _, _ => ⟨rfl, by simp [pd, PyData.depth]⟩
  | n, .str x, h => ⟨by simpa [okD, pd, PyData.canLay0, PyData.strOk] using h, by simp [pd, PyData.depth]⟩
  | n + 1, .lst l, h => by
    have h' : okDs n l = true := by simpa [okD] using h
    obtain ⟨a, b⟩ := okDs_can n l h'
    refine ⟨by simpa [pd, PyData.canLay0] using a, ?_⟩
    simp only [pd, PyData.depth]
    omega
  | n + 1, .tup l, h => by
    have h' : okDs n l = true := by simpa [okD] using h
    obtain ⟨a, b⟩ := okDs_can n l h'
    refine ⟨by simpa [pd, PyData.canLay0] using a, ?_⟩
    simp only [pd, PyData.depth]
    omega
  | 0, .lst _, h => by simp [okD] at h
  | 0, .tup _, h => by simp [okD] at h
  | 0, .dic _ _, h => by simp [okD] at h
  | n + 1, .dic _ _, h => by simp [okD] at h
  | 0, .fro _, h => by simp [okD] at h
  | n + 1, .fro _, h => by simp [okD] at h
  | 0, .fn _, h => by simp [okD] at h
  | n + 1, .fn _, h => by simp [okD] at h
  | 0, .ty _, h => by simp [okD] at h
  | n + 1, .ty _, h => by simp [okD] at h
theorem okDs_can : ∀ (n : Nat) (l : List T), okDs n l = true → PyData.canLayAll0 (pds l) = true ∧ PyData.depthAll (pds l) ≤ n + 1
  | n, [], _ => ⟨rfl, by simp [pds, PyData.depthAll]⟩
  | n, x :: xs, h => by
    have h' : okD n x = true ∧ okDs n xs = true := by simpa [okDs] using h
    obtain ⟨a, b⟩ := okD_can n x h'.1
    obtain ⟨c, d⟩ := okDs_can n xs h'.2
    refine ⟨by simp [pds, PyData.canLayAll0, a, c], ?_⟩
    simp only [pds, PyData.depthAll]
    omega
end
theorem shaped_okD {t : T} (h : okD 20 t = true) : SeqAt.shaped (pd t) = true := by
  obtain ⟨a, b⟩ := okD_can 20 t h
  unfold SeqAt.shaped
  rw [a, decide_eq_true (show (pd t).depth ≤ 64 by omega)]
  rfl
mutual
theorem Is.dp {C : KM} {H : Hp} : ∀ (n : Nat) (t : T) (v : V), okD n t = true → Is C H t v → Dp C.K H v (pd t)
  | _, .non, _, _, h => by
    unfold Is at h; subst h
    exact .non
  | _, .bl b, _, _, h => by
    unfold Is at h; subst h
    exact .bl b
  | _, .int i, _, _, h => by
    unfold Is at h; subst h
    exact .int i
  | _, .str x, _, _, h => by
    unfold Is at h; subst h
    exact .str x
  | n + 1, .lst l, _, k, h => by
    unfold Is at h
    obtain ⟨a, vs, rfl, h2, h3⟩ := h
    exact .lst (SqL.of h2) (IsL.dp n l vs (by simpa [okD] using k) h3)
  | n + 1, .tup l, _, k, h => by
    unfold Is at h
    obtain ⟨a, vs, rfl, h2, h3⟩ := h
    exact .tup h2 (IsL.dp n l vs (by simpa [okD] using k) h3)
  | 0, .lst _, _, h, _ => by simp [okD] at h
  | 0, .tup _, _, h, _ => by simp [okD] at h
  | 0, .dic _ _, _, h, _ => by simp [okD] at h
  | n + 1, .dic _ _, _, h, _ => by simp [okD] at h
  | 0, .fro _, _, h, _ => by simp [okD] at h
  | n + 1, .fro _, _, h, _ => by simp [okD] at h
  | 0, .fn _, _, h, _ => by simp [okD] at h
  | n + 1, .fn _, _, h, _ => by simp [okD] at h
  | 0, .ty _, _, h, _ => by simp [okD] at h
  | n + 1, .ty _, _, h, _ => by simp [okD] at h
theorem IsL.dp {C : KM} {H : Hp} : ∀ (n : Nat) (l : List T) (vs : List V), okDs n l = true → IsL C H l vs → DpAll C.K H vs (pds l)
  | _, [], _, _, h => by
    unfold IsL at h; subst h
    exact .nil
  | n, x :: xs, _, k, h => by
    have k' : okD n x = true ∧ okDs n xs = true := by simpa [okDs] using k
    unfold IsL at h
    obtain ⟨v, r, rfl, h2, h3⟩ := h
    exact .cons (Is.dp n x v k'.1 h2) (IsL.dp n xs r k'.2 h3)
end
mutual
theorem eqT_pd : ∀ (n m : Nat) (x y : T), okD n x = true → okD m y = true → PyData.eqv (pd x) (pd y) = eqT x y
  | n, m, .lst xs, .lst ys, h, k => by
    match n, m, h, k with
    | n + 1, m + 1, h, k =>
      have e := eqTs_pd n m xs ys (by simpa [okD] using h) (by simpa [okD] using k)
      simp only [pd, PyData.eqv, eqT, e]
  | n, m, .tup xs, .tup ys, h, k => by
    match n, m, h, k with
    | n + 1, m + 1, h, k =>
      have e := eqTs_pd n m xs ys (by simpa [okD] using h) (by simpa [okD] using k)
      simp only [pd, PyData.eqv, eqT, e]
  | n, m, .non, y, h, k => by cases y <;> first | (simp [pd, PyData.eqv, eqT]; done) | (cases m <;> simp [okD] at k)
  | n, m, .bl _, y, h, k => by cases y <;> first | (simp [pd, PyData.eqv, eqT]; done) | (cases m <;> simp [okD] at k)
  | n, m, .int _, y, h, k => by cases y <;> first | (simp [pd, PyData.eqv, eqT]; done) | (cases m <;> simp [okD] at k)
  | n, m, .str _, y, h, k => by cases y <;> first | (simp [pd, PyData.eqv, eqT]; done) | (cases m <;> simp [okD] at k)
  | n, m, .lst _, .non, h, k => by simp [pd, PyData.eqv, eqT]
  | n, m, .lst _, .bl _, h, k => by simp [pd, PyData.eqv, eqT]
  | n, m, .lst _, .int _, h, k => by simp [pd, PyData.eqv, eqT]
  | n, m, .lst _, .str _, h, k => by simp [pd, PyData.eqv, eqT]
  | n, m, .lst _, .tup _, h, k => by simp [pd, PyData.eqv, eqT]
  | n, m, .lst _, .dic _ _, h, k => by cases m <;> simp [okD] at k
  | n, m, .lst _, .fro _, h, k => by cases m <;> simp [okD] at k
  | n, m, .lst _, .fn _, h, k => by cases m <;> simp [okD] at k
  | n, m, .lst _, .ty _, h, k => by cases m <;> simp [okD] at k
  | n, m, .tup _, .non, h, k => by simp [pd, PyData.eqv, eqT]
  | n, m, .tup _, .bl _, h, k => by simp [pd, PyData.eqv, eqT]
  | n, m, .tup _, .int _, h, k => by simp [pd, PyData.eqv, eqT]
  | n, m, .tup _, .str _, h, k => by simp [pd, PyData.eqv, eqT]
  | n, m, .tup _, .lst _, h, k => by simp [pd, PyData.eqv, eqT]
  | n, m, .tup _, .dic _ _, h, k => by cases m <;> simp [okD] at k
  | n, m, .tup _, .fro _, h, k => by cases m <;> simp [okD] at k
  | n, m, .tup _, .fn _, h, k => by cases m <;> simp [okD] at k
  | n, m, .tup _, .ty _, h, k => by cases m <;> simp [okD] at k
  | n, m, .dic _ _, _, h, k => by cases n <;> simp [okD] at h
  | n, m, .fro _, _, h, k => by cases n <;> simp [okD] at h
  | n, m, .fn _, _, h, k => by cases n <;> simp [okD] at h
  | n, m, .ty _, _, h, k => by cases n <;> simp [okD] at h
theorem eqTs_pd : ∀ (n m : Nat) (xs ys : List T), okDs n xs = true → okDs m ys = true → PyData.eqvAll (pds xs) (pds ys) = eqTs xs ys
  | _, _, [], [], _, _ => rfl
  | _, _, [], _ :: _, _, _ => rfl
  | _, _, _ :: _, [], _, _ => rfl
  | n, m, x :: xs, y :: ys, h, k => by
    have h' : okD n x = true ∧ okDs n xs = true := by simpa [okDs] using h
    have k' : okD m y = true ∧ okDs m ys = true := by simpa [okDs] using k
    simp only [pds, PyData.eqvAll, eqTs, eqT_pd n m x y h'.1 k'.1, eqTs_pd n m xs ys h'.2 k'.2]
end
end VS

namespace VS
open PySem PySem.Spec PyProof.Rows L2 Evl

/-! ### two-place operations -/
def rG (C : KM) (m : Md) (g : T → T → Option T) : R2 := fun v u H Q => ∃ x y G t, Ex G H ∧ IsS C H G x v ∧ IsS C H G y u ∧ g x y = some t ∧ ∀ z H' G', Gr H G H' G' → m.Is C t z H H' G' → Q z H'
def eB (g : T → T → Option T) (fa fb : FE) : FE := fun ρ => (fa ρ).bind fun x => (fb ρ).bind fun y => Res.of (g x y)
section
variable {C : KM} {B : BS} {m : Md} {W : WX} {σ : L2.St} {H G : Hp} {ρ : Ev'} {Q : VK}
theorem Post.of {r : Option T} (p : Post C m W σ H G (Res.of r) Q) : ∃ t, r = some t ∧ ∀ v H' G', Gr H G H' G' → m.Is C t v H H' G' → Q v H' := by
  cases r with
  | none => exact p.elim
  | some t => exact ⟨t, rfl, p⟩
theorem rG_of {g : T → T → Option T} {fa fb : FE} (h : SR C B σ H ρ G) (p : Post C m W σ H G (eB g fa fb ρ) Q) : tOp (rG C m g) (tM C B .S W fa) (tM C B .S W fb) σ H Q := by
  refine bindS h p fun x v H1 G1 g1 s1 i1 p1 => ?_
  refine bindS s1 p1 fun y u H2 G2 g2 s2 i2 p2 => ?_
  obtain ⟨t, e, q⟩ := p2.of
  exact ⟨x, y, G2, t, s2.exGH, i1.mono g2, i2, e, q⟩
end
/-- a test's reading, of a tree that is a truth -/
def PostT (C : KM) (W : WX) (σ : L2.St) (H G : Hp) (r : Res T) (Q : Bool → Hp → Prop) : Prop :=
  match r with
  | .ok (.bl b) => ∀ H' G', Gr H G H' G' → Q b H'
  | .ok _ => False
  | .ex x p => ∀ cls d H' G', Gr H G H' G' → XAt C x p cls d G' → W cls d σ H'
  | .bad => False
def tMT (C : KM) (B : BS) (W : WX) (f : FE) : TT := fun σ H Q => ∃ ρ G, SR C B σ H ρ G ∧ PostT C W σ H G (f ρ) Q
def DT (X : Cx) (B : BS) (W : WX) (e : Expr) (f : FE) : Prop := PT X e (tMT (km X) B W f)
def DW (X : Cx) (B : BS) (W : WX) (e : Expr) (f : FE) : Prop := PW X e (tMT (km X) B W f)
theorem PostT.post {C : KM} {m : Md} {W : WX} {σ : L2.St} {H G : Hp} {r : Res T} {Q : Bool → Hp → Prop} (h : PostT C W σ H G r Q) (hm : m = .E ∨ m = .S) : Post C m W σ H G r (fun x H1 => ∃ c, x = .bl c ∧ Q c H1) := by
  cases r with
  | ok t =>
    cases t with
    | bl b =>
      intro v H' G' g i
      have i' := Md.Is.shal i
      exact ⟨b, i'.bl, h H' G' g⟩
    | _ => exact h.elim
  | ex x p => exact h
  | bad => exact h
section
variable {X : Cx} {B : BS} {W : WX} {m : Md} {a b e : Expr} {fa fb f : FE} {pos : Pos}
theorem d_op {op : Operator} {g : T → T → Option T} (ho : OpR X (binaryOp op) (rG (km X) m g)) (ha : DE X B W .S a fa) (hb : DE X B W .S b fb) : DE X B W m (.BinOp a op b pos) (eB g fa fb) :=
  PE.imp (pe_op ho ha hb) fun σ H Q ⟨ρ, G, s, p⟩ => rG_of s p
theorem d_cmp {op : CmpOp} {g : T → T → Option T} (ho : OpR X (compareOp op) (rG (km X) .E g)) (ha : DE X B W .S a fa) (hb : DE X B W .S b fb) (hm : behindInMarks op b = false) : DE X B W .E (.Compare a [op] [b] pos) (eB g fa fb) :=
  PE.imp (pe_cmpR ho ha hb hm) fun σ H Q ⟨ρ, G, s, p⟩ => rG_of s p
theorem t_cmp {op : CmpOp} {g : T → T → Option T} (ho : OpR X (compareOp op) (rG (km X) .E g)) (ha : DE X B W .S a fa) (hb : DE X B W .S b fb) (hm : behindInMarks op b = false) : DT X B W (.Compare a [op] [b] pos) (eB g fa fb) :=
  PT.imp (pt_cmpR ho ha hb hm) fun σ H Q ⟨ρ, G, s, p⟩ => rG_of (m := .E) s (p.post (.inl rfl))
theorem t_val (h : DE X B W .E e f) (he : ∀ whole, isTrue e X.env whole = (do let v ← whole; standAt e.pos; holding [v] (truthy v)) := by intro _; rfl) : DT X B W e f :=
  PT.imp (pt_val h he) fun σ H Q ⟨ρ, G, s, p⟩ => ⟨ρ, G, s, p.post (.inl rfl)⟩
end

/-! ### chains, and, or, not, if -/
def eCh (g g' : T → T → Option T) (fa fb fc : FE) : FE := fun ρ => (fa ρ).bind fun x => (fb ρ).bind fun y => match g x y with
  | some (.bl true) => (fc ρ).bind fun z => Res.of (g' y z)
  | some (.bl false) => .ok (.bl false)
  | _ => .bad
def eAnd (fa fb : FE) : FE := fun ρ => (fa ρ).bind fun x => match x with | .bl true => fb ρ | .bl false => .ok (.bl false) | _ => .bad
def eOr (fa fb : FE) : FE := fun ρ => (fa ρ).bind fun x => match x with | .bl true => .ok (.bl true) | .bl false => fb ρ | _ => .bad
def eNot (fa : FE) : FE := fun ρ => (fa ρ).bind fun x => match x with | .bl c => .ok (.bl !c) | _ => .bad
def eIf (fc fa fb : FE) : FE := fun ρ => (fc ρ).bind fun x => match x with | .bl true => fa ρ | .bl false => fb ρ | _ => .bad
section
variable {C : KM} {B : BS} {m : Md} {W : WX} {σ : L2.St} {H G : Hp} {ρ : Ev'} {Q : VK}
/-- a test, then what follows -/
theorem bindT {fa : FE} {k : Bool → Res T} {Q1 : Bool → Hp → Prop} (h : SR C B σ H ρ G) (p : Post C m W σ H G ((fa ρ).bind fun x => match x with | .bl c => k c | _ => .bad) Q)
    (c : ∀ b H1 G1, Gr H G H1 G1 → SR C B σ H1 ρ G1 → Post C m W σ H1 G1 (k b) Q → Q1 b H1) : tMT C B W fa σ H Q1 := by
  refine ⟨ρ, G, h, ?_⟩
  cases e : fa ρ with
  | ok t =>
    rw [e] at p
    cases t with
    | bl b => exact fun H' G' g => c b H' G' g (h.ext g) (p.mono g)
    | _ => exact p.elim
  | ex x p' =>
    rw [e] at p
    exact p
  | bad =>
    rw [e] at p
    exact p.elim
theorem PostT.mono {H1 G1 : Hp} {r : Res T} {Q : Bool → Hp → Prop} (g : Gr H G H1 G1) (h : PostT C W σ H G r Q) : PostT C W σ H1 G1 r Q := by
  cases r with
  | ok t =>
    cases t with
    | bl b => exact fun H' G' g' => h H' G' (g.trans g')
    | _ => exact h
  | ex x p => exact fun cls d H' G' g' i => h cls d H' G' (g.trans g') i
  | bad => exact h
theorem bindTT {fa : FE} {k : Bool → Res T} {Q : Bool → Hp → Prop} {Q1 : Bool → Hp → Prop} (h : SR C B σ H ρ G) (p : PostT C W σ H G ((fa ρ).bind fun x => match x with | .bl c => k c | _ => .bad) Q)
    (c : ∀ b H1 G1, Gr H G H1 G1 → SR C B σ H1 ρ G1 → PostT C W σ H1 G1 (k b) Q → Q1 b H1) : tMT C B W fa σ H Q1 := by
  refine ⟨ρ, G, h, ?_⟩
  cases e : fa ρ with
  | ok t =>
    rw [e] at p
    cases t with
    | bl b => exact fun H' G' g => c b H' G' g (h.ext g) (p.mono g)
    | _ => exact p.elim
  | ex x p' =>
    rw [e] at p
    exact p
  | bad =>
    rw [e] at p
    exact p.elim
theorem sw_and {r : Res T} {s : Res T} : (r.bind fun x => match x with | .bl true => s | .bl false => .ok (.bl false) | _ => .bad) = r.bind fun x => match x with | .bl c => (if c = true then s else .ok (.bl false)) | _ => .bad := by
  cases r with
  | ok t =>
    cases t with
    | bl b => cases b <;> rfl
    | _ => rfl
  | _ => rfl
theorem sw_or {r : Res T} {s : Res T} : (r.bind fun x => match x with | .bl true => .ok (.bl true) | .bl false => s | _ => .bad) = r.bind fun x => match x with | .bl c => (if c = true then .ok (.bl true) else s) | _ => .bad := by
  cases r with
  | ok t =>
    cases t with
    | bl b => cases b <;> rfl
    | _ => rfl
  | _ => rfl
theorem sw_if {r : Res T} {s u : Res T} : (r.bind fun x => match x with | .bl true => s | .bl false => u | _ => .bad) = r.bind fun x => match x with | .bl c => (if c = true then s else u) | _ => .bad := by
  cases r with
  | ok t =>
    cases t with
    | bl b => cases b <;> rfl
    | _ => rfl
  | _ => rfl
theorem postOkB {b : Bool} {Q : Bool → Hp → Prop} (e : Ex G H) (p : PostT C W σ H G (.ok (.bl b)) Q) : Q b H := p H G (Gr.refl e)
theorem postOk {b : Bool} {Q : VK} (e : Ex G H) (p : Post C .E W σ H G (.ok (.bl b)) Q) : Q (.bl b) H := p _ H G (Gr.refl e) (show VS.Is C G (.bl b) (.bl b) from Is.blI)
end
section
variable {X : Cx} {B : BS} {W : WX} {m : Md} {a b c e : Expr} {fa fb fc f : FE} {pos : Pos} {rest : List Expr}
theorem tB_of {C : KM} {σ : L2.St} {H : Hp} {Q : Bool → Hp → Prop} {f : FE} (h : tMT C B W f σ H Q) : tM C B .E W f σ H (fun x H1 => ∃ c, x = .bl c ∧ Q c H1) := by
  obtain ⟨ρ, G, s, p⟩ := h
  exact ⟨ρ, G, s, p.post (.inl rfl)⟩
theorem w_and1 (ha : DT X B W a fa) : DW X B W (.BoolOp .And [a] pos) fa := pw_and1 ha
theorem w_or1 (ha : DT X B W a fa) : DW X B W (.BoolOp .Or [a] pos) fa := pw_or1 ha
theorem PW.imp {X : Cx} {e : Expr} {t t' : TT} (h : PW X e t) (i : ∀ σ H Q, t' σ H Q → t σ H Q) : PW X e t' := ⟨fun wh pins s σ H Q I q => h.run wh pins s σ H Q I (i σ H Q q)⟩
theorem w_and (ha : DT X B W a fa) (hb : DW X B W (.BoolOp .And (b :: rest) pos) fb) : DW X B W (.BoolOp .And (a :: b :: rest) pos) (eAnd fa fb) :=
  PW.imp (pw_and ha hb) fun σ H Q ⟨ρ, G, s, p⟩ => bindTT s (k := fun c => if c = true then fb ρ else .ok (.bl false)) (by unfold eAnd at p; rw [sw_and] at p; exact p) fun b H1 G1 g s1 p1 => by
    cases b with
    | true => exact iteT ⟨ρ, G1, s1, p1⟩
    | false => exact iteF (postOkB s1.exGH p1)
theorem w_or (ha : DT X B W a fa) (hb : DW X B W (.BoolOp .Or (b :: rest) pos) fb) : DW X B W (.BoolOp .Or (a :: b :: rest) pos) (eOr fa fb) :=
  PW.imp (pw_or ha hb) fun σ H Q ⟨ρ, G, s, p⟩ => bindTT s (k := fun c => if c = true then .ok (.bl true) else fb ρ) (by unfold eOr at p; rw [sw_or] at p; exact p) fun b H1 G1 g s1 p1 => by
    cases b with
    | true => exact iteT (postOkB s1.exGH p1)
    | false => exact iteF ⟨ρ, G1, s1, p1⟩
theorem t_w (h : DW X B W e f) : DT X B W e f := L2.PW.pt h
theorem t_not (ha : DT X B W a fa) : DT X B W (.UnaryOp .Not a pos) (eNot fa) :=
  PT.imp (pt_not ha) fun σ H Q ⟨ρ, G, s, p⟩ => bindTT s (k := fun c => .ok (.bl !c)) p fun b H1 G1 g s1 p1 => postOkB s1.exGH p1
theorem d_one {op} (h : DE X B W m a f) : DE X B W m (.BoolOp op [a] pos) f := pe_one h
theorem d_and (ha : DE X B W .E a fa) (hb : DE X B W .E (.BoolOp .And (b :: rest) pos) fb) : DE X B W .E (.BoolOp .And (a :: b :: rest) pos) (eAnd fa fb) :=
  PE.imp (pe_and ha hb) fun σ H Q ⟨ρ, G, s, p⟩ => tB_of (Q := fun c H1 => if c = true then tM (km X) B .E W fb σ H1 Q else Q (.bl false) H1) (bindT s (k := fun c => if c = true then fb ρ else .ok (.bl false)) (by unfold eAnd at p; rw [sw_and] at p; exact p) fun b H1 G1 g s1 p1 => by
    cases b with
    | true => exact iteT ⟨ρ, G1, s1, p1⟩
    | false => exact iteF (postOk s1.exGH p1))
theorem d_or (ha : DE X B W .E a fa) (hb : DE X B W .E (.BoolOp .Or (b :: rest) pos) fb) : DE X B W .E (.BoolOp .Or (a :: b :: rest) pos) (eOr fa fb) :=
  PE.imp (pe_or ha hb) fun σ H Q ⟨ρ, G, s, p⟩ => tB_of (Q := fun c H1 => if c = true then Q (.bl true) H1 else tM (km X) B .E W fb σ H1 Q) (bindT s (k := fun c => if c = true then .ok (.bl true) else fb ρ) (by unfold eOr at p; rw [sw_or] at p; exact p) fun b H1 G1 g s1 p1 => by
    cases b with
    | true => exact iteT (postOk s1.exGH p1)
    | false => exact iteF ⟨ρ, G1, s1, p1⟩)
theorem d_not (ha : DE X B W .E a fa) : DE X B W .E (.UnaryOp .Not a pos) (eNot fa) :=
  PE.imp (pe_not ha) fun σ H Q ⟨ρ, G, s, p⟩ => tB_of (Q := fun c H1 => Q (.bl !c) H1) (bindT s (k := fun c => .ok (.bl !c)) p fun b H1 G1 g s1 p1 => postOk s1.exGH p1)
theorem d_if (hc : DT X B W c fc) (ha : DE X B W m a fa) (hb : DE X B W m b fb) : DE X B W m (.IfExp c a b pos) (eIf fc fa fb) :=
  PE.imp (pe_ifExp hc ha hb) fun σ H Q ⟨ρ, G, s, p⟩ => bindT s (k := fun c => if c = true then fa ρ else fb ρ) (by unfold eIf at p; rw [sw_if] at p; exact p) fun b H1 G1 g s1 p1 => by
    cases b with
    | true => exact iteT ⟨ρ, G1, s1, p1⟩
    | false => exact iteF ⟨ρ, G1, s1, p1⟩
theorem chain_of {C : KM} {σ : L2.St} {H G : Hp} {ρ : Ev'} {Q : VK} {g g' : T → T → Option T} (h : SR C B σ H ρ G) (p : Post C .E W σ H G (eCh g g' fa fb fc ρ) Q) : tChain (rG C .E g) (rG C .E g') (tM C B .S W fa) (tM C B .S W fb) (tM C B .S W fc) σ H Q := by
  refine bindS h p fun x v H1 G1 g1 s1 i1 p1 => ?_
  refine bindS s1 p1 fun y u H2 G2 g2 s2 i2 p2 => ?_
  cases e : g x y with
  | none =>
    rw [e] at p2
    exact p2.elim
  | some t =>
    rw [e] at p2
    cases t with
    | bl b =>
      refine ⟨x, y, G2, .bl b, s2.exGH, i1.mono g2, i2, e, fun z H' G' gg iz => ?_⟩
      have iz' : z = .bl b := Eq.mp (by show VS.Is C G' (.bl b) z = _; unfold Is; rfl) iz
      subst iz'
      refine ⟨b, rfl, ?_⟩
      cases b with
      | true =>
        refine iteT (bindS (s2.ext gg) (p2.mono gg) fun z' w H3 G3 g3 s3 i3 p3 => ?_)
        obtain ⟨t, e', q⟩ := p3.of
        exact ⟨y, z', G3, t, s3.exGH, i2.mono (gg.trans g3), i3, e', q⟩
      | false => exact iteF (postOk gg.gh (p2.mono gg))
    | _ => exact p2.elim
theorem d_ch {op op' : CmpOp} {g g' : T → T → Option T} (ho : OpR X (compareOp op) (rG (km X) .E g)) (ho' : OpR X (compareOp op') (rG (km X) .E g')) (ha : DE X B W .S a fa) (hb : DE X B W .S b fb) (hc : DE X B W .S c fc)
    (hm : lastMarks [op, op'] [b, c] = false := by with_unfolding_all rfl) : DE X B W .E (.Compare a [op, op'] [b, c] pos) (eCh g g' fa fb fc) :=
  PE.imp (pe_chain ho ho' ha hb hc hm) fun σ H Q ⟨ρ, G, s, p⟩ => chain_of s p
theorem t_ch {op op' : CmpOp} {g g' : T → T → Option T} (ho : OpR X (compareOp op) (rG (km X) .E g)) (ho' : OpR X (compareOp op') (rG (km X) .E g')) (ha : DE X B W .S a fa) (hb : DE X B W .S b fb) (hc : DE X B W .S c fc)
    (hm : lastMarks [op, op'] [b, c] = false := by with_unfolding_all rfl) : DT X B W (.Compare a [op, op'] [b, c] pos) (eCh g g' fa fb fc) :=
  PT.imp (pt_chain ho ho' ha hb hc hm) fun σ H Q ⟨ρ, G, s, p⟩ => chain_of s (p.post (.inl rfl))
end
end VS

namespace VS
open PySem PySem.Spec PyProof.Rows L2 Evl

/-! ### the operations on trees -/
def gAdd : T → T → Option T
  | .int i, .int j => some (.int (i + j))
  | .str a, .str b => if a.length + b.length ≤ 100000 then some (.str (a ++ b)) else none
  | .tup a, .tup b => if a.length + b.length ≤ 100000 then some (.tup (a ++ b)) else none
  | .lst a, .lst b => if a.length + b.length ≤ 100000 then some (.lst (a ++ b)) else none
  | _, _ => none
def gSubI : T → T → Option T
  | .int i, .int j => some (.int (i - j))
  | _, _ => none
def gMul : T → T → Option T
  | .int i, .int j => if (-(2 ^ 64) < i ∧ i < 2 ^ 64) ∨ (-(2 ^ 64) < j ∧ j < 2 ^ 64) then some (.int (i * j)) else none
  | .lst l, .int k => if k ≤ 100000 ∧ l.length * k.toNat ≤ 100000 ∧ -100000 ≤ k then some (.lst (List.replicate k.toNat l).flatten) else none
  | _, _ => none
def gDiv : T → T → Option T
  | .int i, .int j => if 0 < j ∧ j < 1073741824 then some (.int (i / j)) else none
  | _, _ => none
def gMod : T → T → Option T
  | .int i, .int j => if 0 < j then some (.int (i % j)) else none
  | _, _ => none
def gPow : T → T → Option T
  | .int i, .int j => if 0 ≤ j ∧ j ≤ 1000000 ∧ i.natAbs < 2 ^ 64 then some (.int (i ^ j.toNat)) else none
  | _, _ => none
def gI (p : Int → Int → Bool) : T → T → Option T
  | .int i, .int j => some (.bl (p i j))
  | _, _ => none
abbrev gLt := gI fun i j => decide (i < j)
abbrev gLe := gI fun i j => decide (i ≤ j)
abbrev gGt := gI fun i j => decide (j < i)
abbrev gGe := gI fun i j => decide (j ≤ i)
def gEq (x y : T) : Option T := if okD 20 x && okD 20 y then some (.bl (eqT x y)) else none
def gNe (x y : T) : Option T := if okD 20 x && okD 20 y then some (.bl (!eqT x y)) else none
def T.isNon : T → Bool
  | .non => true
  | _ => false
def gIsN (x y : T) : Option T := if y.isNon then some (.bl x.isNon) else none
def gNotN (x y : T) : Option T := if y.isNon then some (.bl (!x.isNon)) else none
def T.flat : T → Bool
  | .non => true
  | .bl _ => true
  | .int _ => true
  | .str _ => true
  | _ => false
/-- in a tuple or a list of flat things -/
def gIn (neg : Bool) (x y : T) : Option T :=
  match y with
  | .tup l => if x.flat && l.all T.flat then some (.bl (if neg then !(l.any fun z => eqT z x) else l.any fun z => eqT z x)) else none
  | .lst l => if x.flat && l.all T.flat then some (.bl (if neg then !(l.any fun z => eqT z x) else l.any fun z => eqT z x)) else none
  | _ => none
/-- an item; a value of a dict -/
def gIx (x y : T) : Option T :=
  match x, y with
  | .lst l, .int i => atI l i
  | .tup l, .int i => atI l i
  | .fro l, .int i => (atI l i).map T.int
  | _, _ => none
section
variable {X : Cx} {C : KM} {H G : Hp}
theorem qE {t : T} {v : V} {Q : VK} (q : ∀ z H' G', Gr H G H' G' → Md.Is C .E t z H H' G' → Q z H') (e : Ex G H) (i : Is C G t v) : Q v H := q v H G (Gr.refl e) i
theorem atI_len {α β : Type} {xs : List α} {ys : List β} (h : xs.length = ys.length) {i : Int} {t : α} (e : atI xs i = some t) : ∃ j : Nat, xs[j]? = some t ∧ ∀ v, ys[j]? = some v → atI ys i = some v := by
  unfold atI at e ⊢
  cases q : ixN xs.length i with
  | none => rw [q] at e; cases e
  | some j =>
    rw [q] at e
    refine ⟨j, e, fun v hv => ?_⟩
    rw [← h, q]
    exact hv
theorem IsL.at {l : List T} {vs : List V} (h : IsL C G l vs) {i : Int} {t : T} (e : atI l i = some t) : ∃ v, atI vs i = some v ∧ Is C G t v := by
  obtain ⟨j, e1, e2⟩ := atI_len h.length e
  obtain ⟨v, e3, e4⟩ := h.get e1
  exact ⟨v, e2 v e3, e4⟩
theorem o_add : OpR X (binaryOp .Add) (rG (km X) .E gAdd) := by
  intro pins s σ H v u a b Q I ra rb h
  obtain ⟨x, y, G, t, ex, ix, iy, e, q⟩ := h
  cases x with
  | int i =>
    cases y with
    | int j =>
      obtain rfl := Option.some.inj e
      obtain rfl := ix.int
      obtain rfl := iy.int
      exact op_add pins s σ H _ _ a b Q I ra rb ⟨i, j, rfl, rfl, qE q ex Is.intI⟩
    | _ => cases e
  | str i =>
    cases y with
    | str j =>
      simp only [gAdd] at e
      split at e
      · rename_i hl
        obtain rfl := Option.some.inj e
        obtain rfl := ix.str
        obtain rfl := iy.str
        exact op_add_str pins s σ H _ _ a b Q I ra rb ⟨i, j, rfl, rfl, sz_of hl, qE q ex Is.strI⟩
      · cases e
    | _ => cases e
  | tup l =>
    cases y with
    | tup r =>
      simp only [gAdd] at e
      split at e
      · rename_i hl
        obtain rfl := Option.some.inj e
        obtain ⟨p, vs, rfl, h1, h2⟩ := ix.tup
        obtain ⟨p', ws, rfl, k1, k2⟩ := iy.tup
        refine op_catA pins s σ H _ _ a b Q I ra rb ⟨p, p', vs, ws, rfl, rfl, ex_t ex h1, ex_t ex k1, sz_of (by rw [← h2.length, ← k2.length]; exact hl), fun z => ?_, fun z z' => ?_, fun z z' => fun n hn => ?_⟩
        · have z1 := h2.nil_iff.mp z
          subst z1
          exact qE q ex (Is.tupI k1 k2)
        · have z1 := k2.nil_iff.mp z'
          subst z1
          refine qE q ex (Is.tupI h1 ?_)
          rw [List.append_nil]
          exact h2
        · obtain ⟨g1, g2⟩ := new_tup (C := km X) ex hn (h2.app k2)
          exact q _ _ _ g1 g2
      · cases e
    | _ => cases e
  | lst l =>
    cases y with
    | lst r =>
      simp only [gAdd] at e
      split at e
      · rename_i hl
        obtain rfl := Option.some.inj e
        obtain ⟨p, vs, rfl, h1, h2⟩ := ix.lst ex
        obtain ⟨p', ws, rfl, k1, k2⟩ := iy.lst ex
        refine op_cat pins s σ H _ _ a b Q I ra rb ⟨p, p', vs, ws, rfl, rfl, h1, k1, sz_of (by rw [← h2.length, ← k2.length]; exact hl), fun n hn => ?_⟩
        obtain ⟨g1, g2⟩ := new_lst (C := km X) ex hn (h2.app k2)
        exact q _ _ _ g1 g2
      · cases e
    | _ => cases e
  | _ => cases y <;> cases e
theorem o_int {op : Operator} {g : T → T → Option T} {Cd : Int → Int → Prop} {w : Int → Int → Int} (ho : OpR X (binaryOp op) (rI Cd fun i j => .int (w i j)))
    (hg : ∀ x y t, g x y = some t → ∃ i j, x = .int i ∧ y = .int j ∧ Cd i j ∧ t = .int (w i j)) : OpR X (binaryOp op) (rG (km X) .E g) := by
  intro pins s σ H v u a b Q I ra rb h
  obtain ⟨x, y, G, t, ex, ix, iy, e, q⟩ := h
  obtain ⟨i, j, rfl, rfl, c, rfl⟩ := hg x y t e
  obtain rfl := ix.int
  obtain rfl := iy.int
  exact ho pins s σ H _ _ a b Q I ra rb ⟨i, j, rfl, rfl, c, qE q ex Is.intI⟩
theorem o_sub : OpR X (binaryOp .Sub) (rG (km X) .E gSubI) := by
  intro pins s σ H v u a b Q I ra rb h
  obtain ⟨x, y, G, t, ex, ix, iy, e, q⟩ := h
  cases x <;> cases y <;> first | cases e | skip
  rename_i i j
  obtain rfl := ix.int
  obtain rfl := iy.int
  exact op_sub pins s σ H _ _ a b Q I ra rb ⟨i, j, rfl, rfl, qE q ex Is.intI⟩
theorem flat_rep {H : Hp} {l : List T} {vs : List V} (h : IsL C H l vs) : ∀ k : Nat, IsL C H (List.replicate k l).flatten (List.replicate k vs).flatten
  | 0 => IsL.nil
  | k + 1 => by
    rw [List.replicate_succ, List.replicate_succ, List.flatten_cons, List.flatten_cons]
    exact h.app (flat_rep h k)
theorem o_mul : OpR X (binaryOp .Mult) (rG (km X) .E gMul) := by
  intro pins s σ H v u a b Q I ra rb h
  obtain ⟨x, y, G, t, ex, ix, iy, e, q⟩ := h
  cases x with
  | int i =>
    cases y with
    | int j =>
      simp only [gMul] at e
      split at e
      · rename_i hc
        obtain rfl := Option.some.inj e
        obtain rfl := ix.int
        obtain rfl := iy.int
        exact op_mul pins s σ H _ _ a b Q I ra rb ⟨i, j, rfl, rfl, hc, qE q ex Is.intI⟩
      · cases e
    | _ => cases e
  | lst l =>
    cases y with
    | int k =>
      simp only [gMul] at e
      split at e
      · rename_i hc
        obtain rfl := Option.some.inj e
        obtain ⟨p, vs, rfl, h1, h2⟩ := ix.lst ex
        obtain rfl := iy.int
        refine op_rep pins s σ H _ _ a b Q I ra rb ⟨p, k, vs, rfl, rfl, h1, by omega, by omega, sz_of (by rw [← h2.length]; exact hc.2.1), fun n hn => ?_⟩
        obtain ⟨g1, g2⟩ := new_lst (C := km X) ex hn (flat_rep h2 k.toNat)
        exact q _ _ _ g1 g2
      · cases e
    | _ => cases e
  | _ => cases y <;> cases e
theorem o_div : OpR X (binaryOp .FloorDiv) (rG (km X) .E gDiv) := o_int op_fdiv fun x y t e => by
  cases x <;> cases y <;> first | cases e | skip
  simp only [gDiv] at e
  split at e
  · rename_i c
    exact ⟨_, _, rfl, rfl, c, (Option.some.inj e).symm⟩
  · cases e
theorem o_mod : OpR X (binaryOp .Mod) (rG (km X) .E gMod) := o_int op_mod fun x y t e => by
  cases x <;> cases y <;> first | cases e | skip
  simp only [gMod] at e
  split at e
  · rename_i c
    exact ⟨_, _, rfl, rfl, c, (Option.some.inj e).symm⟩
  · cases e
theorem o_pow : OpR X (binaryOp .Pow) (rG (km X) .E gPow) := o_int op_pow fun x y t e => by
  cases x <;> cases y <;> first | cases e | skip
  simp only [gPow] at e
  split at e
  · rename_i c
    exact ⟨_, _, rfl, rfl, c, (Option.some.inj e).symm⟩
  · cases e
theorem o_I {op : CmpOp} {w : Int → Int → Bool} (ho : OpR X (compareOp op) (rI0 fun i j => .bl (w i j))) : OpR X (compareOp op) (rG (km X) .E (gI w)) := by
  intro pins s σ H v u a b Q I ra rb h
  obtain ⟨x, y, G, t, ex, ix, iy, e, q⟩ := h
  cases x <;> cases y <;> first | cases e | skip
  rename_i i j
  obtain rfl := ix.int
  obtain rfl := iy.int
  exact ho pins s σ H _ _ a b Q I ra rb ⟨i, j, rfl, rfl, qE q ex Is.blI⟩
theorem o_lt : OpR X (compareOp .Lt) (rG (km X) .E gLt) := o_I op_lt
theorem o_le : OpR X (compareOp .LtE) (rG (km X) .E gLe) := o_I op_le
theorem o_gt : OpR X (compareOp .Gt) (rG (km X) .E gGt) := o_I op_gt
theorem o_ge : OpR X (compareOp .GtE) (rG (km X) .E gGe) := o_I op_ge
theorem o_eq (hu : X.A.units + 64 < cLine) : OpR X (compareOp .Eq) (rG (km X) .E gEq) := by
  intro pins s σ H v u a b Q I ra rb h
  obtain ⟨x, y, G, t, ex, ix, iy, e, q⟩ := h
  unfold gEq at e
  split at e
  · rename_i c
    have c' := Bool.and_eq_true_iff.mp c
    obtain rfl := Option.some.inj e
    refine op_eqD hu pins s σ H _ _ a b Q I ra rb ⟨pd x, pd y, Is.dp 20 x v c'.1 (ix.is ex), Is.dp 20 y u c'.2 (iy.is ex), shaped_okD c'.1, shaped_okD c'.2, ?_⟩
    rw [eqT_pd 20 20 x y c'.1 c'.2]
    exact qE q ex Is.blI
  · cases e
theorem o_ne (hu : X.A.units + 64 < cLine) : OpR X (compareOp .NotEq) (rG (km X) .E gNe) := by
  intro pins s σ H v u a b Q I ra rb h
  obtain ⟨x, y, G, t, ex, ix, iy, e, q⟩ := h
  unfold gNe at e
  split at e
  · rename_i c
    have c' := Bool.and_eq_true_iff.mp c
    obtain rfl := Option.some.inj e
    refine op_neD hu pins s σ H _ _ a b Q I ra rb ⟨pd x, pd y, Is.dp 20 x v c'.1 (ix.is ex), Is.dp 20 y u c'.2 (iy.is ex), shaped_okD c'.1, shaped_okD c'.2, ?_⟩
    rw [eqT_pd 20 20 x y c'.1 c'.2]
    exact qE q ex Is.blI
  · cases e
theorem isN_dec {x : T} {v : V} (hx : ∀ n, x ≠ .fn n) (h : IsS C H G x v) : decide (v = .non) = x.isNon := by
  cases x with
  | non => rw [h.non]; rfl
  | bl b => rw [h.bl]; rfl
  | int b => rw [h.int]; rfl
  | str b => rw [h.str]; rfl
  | ty b => rw [h.ty]; rfl
  | fn n => exact absurd rfl (hx n)
  | tup l => obtain ⟨a, _, rfl, _⟩ := h.tup; rfl
  | fro l => obtain ⟨a, rfl, _⟩ := h.fro; rfl
  | lst l =>
    rcases h with h | ⟨a, o, rfl, _⟩
    · unfold Is at h
      obtain ⟨a, _, rfl, _⟩ := h
      rfl
    · rfl
  | dic l l' =>
    rcases h with h | ⟨a, o, rfl, _⟩
    · unfold Is at h
      obtain ⟨a, _, rfl, _⟩ := h
      rfl
    · rfl
def T.isFn : T → Bool
  | .fn _ => true
  | _ => false
theorem ne_fn {x : T} (h : x.isFn = false) : ∀ n, x ≠ .fn n := fun n e => by subst e; cases h
def gIsN' (x y : T) : Option T := if y.isNon && !x.isFn then some (.bl x.isNon) else none
def gNotN' (x y : T) : Option T := if y.isNon && !x.isFn then some (.bl (!x.isNon)) else none
theorem isNon_eq {y : T} (h : y.isNon = true) : y = .non := by cases y <;> first | rfl | cases h
theorem o_isN : OpR X (compareOp .Is) (rG (km X) .E gIsN') := by
  intro pins s σ H v u a b Q I ra rb h
  obtain ⟨x, y, G, t, ex, ix, iy, e, q⟩ := h
  unfold gIsN' at e
  split at e
  · rename_i c
    have c' := Bool.and_eq_true_iff.mp c
    obtain rfl := Option.some.inj e
    have ey := isNon_eq c'.1
    subst ey
    refine op_isN pins s σ H _ _ a b Q I ra rb ⟨iy.non, ?_⟩
    rw [isN_dec (ne_fn (by simpa using c'.2)) ix]
    exact qE q ex Is.blI
  · cases e
theorem o_notN : OpR X (compareOp .IsNot) (rG (km X) .E gNotN') := by
  intro pins s σ H v u a b Q I ra rb h
  obtain ⟨x, y, G, t, ex, ix, iy, e, q⟩ := h
  unfold gNotN' at e
  split at e
  · rename_i c
    have c' := Bool.and_eq_true_iff.mp c
    obtain rfl := Option.some.inj e
    have ey := isNon_eq c'.1
    subst ey
    refine op_notN pins s σ H _ _ a b Q I ra rb ⟨iy.non, ?_⟩
    rw [isN_dec (ne_fn (by simpa using c'.2)) ix]
    exact qE q ex Is.blI
  · cases e
theorem flatV_of {x : T} {v : V} (f : x.flat = true) (h : IsS C H G x v) : flatV v = true := by
  cases x with
  | non => rw [h.non]; rfl
  | bl b => rw [h.bl]; rfl
  | int b => rw [h.int]; rfl
  | str b => rw [h.str]; rfl
  | _ => cases f
theorem eqV_of {x y : T} {v u : V} (f : x.flat = true) (k : y.flat = true) (h : IsS C H G x v) (h' : IsS C H G y u) : eqV v u = eqT x y := by
  cases x with
  | non =>
    rw [h.non]
    cases y with
    | non => rw [h'.non]; simp [eqV, eqT]
    | bl b => rw [h'.bl]; simp [eqV, eqT]
    | int b => rw [h'.int]; simp [eqV, eqT]
    | str b => rw [h'.str]; simp [eqV, eqT]
    | _ => cases k
  | bl c =>
    rw [h.bl]
    cases y with
    | non => rw [h'.non]; simp [eqV, eqT]
    | bl b => rw [h'.bl]; simp [eqV, eqT]
    | int b => rw [h'.int]; simp [eqV, eqT]
    | str b => rw [h'.str]; simp [eqV, eqT]
    | _ => cases k
  | int c =>
    rw [h.int]
    cases y with
    | non => rw [h'.non]; simp [eqV, eqT]
    | bl b => rw [h'.bl]; simp [eqV, eqT]
    | int b => rw [h'.int]; simp [eqV, eqT]
    | str b => rw [h'.str]; simp [eqV, eqT]
    | _ => cases k
  | str c =>
    rw [h.str]
    cases y with
    | non => rw [h'.non]; simp [eqV, eqT]
    | bl b => rw [h'.bl]; simp [eqV, eqT]
    | int b => rw [h'.int]; simp [eqV, eqT]
    | str b => rw [h'.str]; simp [eqV, eqT]
    | _ => cases k
  | _ => cases f
theorem all_flat : ∀ {l : List T} {vs : List V}, IsL C G l vs → l.all T.flat = true → vs.all flatV = true
  | [], _, h, _ => by unfold IsL at h; subst h; rfl
  | t :: l, _, h, f => by
    unfold IsL at h
    obtain ⟨v, r, rfl, h2, h3⟩ := h
    have f' := Bool.and_eq_true_iff.mp (by simpa only [List.all_cons] using f)
    rw [List.all_cons, flatV_of (C := C) (H := G) f'.1 (.inl h2), all_flat h3 f'.2]
    rfl
theorem any_eq {x : T} {v : V} (fx : x.flat = true) (hx : IsS C H G x v) : ∀ {l : List T} {vs : List V}, IsL C G l vs → l.all T.flat = true → inV v vs = l.any fun z => eqT z x
  | [], _, h, _ => by unfold IsL at h; subst h; rfl
  | t :: l, _, h, f => by
    unfold IsL at h
    obtain ⟨w, r, rfl, h2, h3⟩ := h
    have f' := Bool.and_eq_true_iff.mp (by simpa only [List.all_cons] using f)
    have ih := any_eq fx hx h3 f'.2
    unfold inV at ih ⊢
    rw [List.any_cons, List.any_cons, eqV_of f'.1 fx (.inl h2) hx, ih]
theorem o_in : OpR X (compareOp .In) (rG (km X) .E (gIn false)) := by
  intro pins s σ H v u a b Q I ra rb h
  obtain ⟨x, y, G, t, ex, ix, iy, e, q⟩ := h
  cases y with
  | tup l =>
    simp only [gIn] at e
    split at e
    · rename_i c
      have c' := Bool.and_eq_true_iff.mp c
      obtain rfl := Option.some.inj e
      obtain ⟨p, vs, rfl, h1, h2⟩ := iy.tup
      refine op_in_seq pins s σ H _ _ a b Q I ra rb ⟨p, vs, rfl, .inr (ex_t ex h1), flatV_of c'.1 ix, all_flat h2 c'.2, ?_⟩
      rw [any_eq c'.1 ix h2 c'.2]
      exact qE q ex Is.blI
    · cases e
  | lst l =>
    simp only [gIn] at e
    split at e
    · rename_i c
      have c' := Bool.and_eq_true_iff.mp c
      obtain rfl := Option.some.inj e
      obtain ⟨p, vs, rfl, h1, h2⟩ := iy.lst ex
      refine op_in_seq pins s σ H _ _ a b Q I ra rb ⟨p, vs, rfl, .inl (SqL.of h1), flatV_of c'.1 ix, all_flat h2 c'.2, ?_⟩
      rw [any_eq c'.1 ix h2 c'.2]
      exact qE q ex Is.blI
    · cases e
  | _ => cases e
theorem o_notIn : OpR X (compareOp .NotIn) (rG (km X) .E (gIn true)) := by
  intro pins s σ H v u a b Q I ra rb h
  obtain ⟨x, y, G, t, ex, ix, iy, e, q⟩ := h
  cases y with
  | tup l =>
    simp only [gIn] at e
    split at e
    · rename_i c
      have c' := Bool.and_eq_true_iff.mp c
      obtain rfl := Option.some.inj e
      obtain ⟨p, vs, rfl, h1, h2⟩ := iy.tup
      refine op_notIn_seq pins s σ H _ _ a b Q I ra rb ⟨p, vs, rfl, .inr (ex_t ex h1), flatV_of c'.1 ix, all_flat h2 c'.2, ?_⟩
      rw [any_eq c'.1 ix h2 c'.2]
      exact qE q ex Is.blI
    · cases e
  | lst l =>
    simp only [gIn] at e
    split at e
    · rename_i c
      have c' := Bool.and_eq_true_iff.mp c
      obtain rfl := Option.some.inj e
      obtain ⟨p, vs, rfl, h1, h2⟩ := iy.lst ex
      refine op_notIn_seq pins s σ H _ _ a b Q I ra rb ⟨p, vs, rfl, .inl (SqL.of h1), flatV_of c'.1 ix, all_flat h2 c'.2, ?_⟩
      rw [any_eq c'.1 ix h2 c'.2]
      exact qE q ex Is.blI
    · cases e
  | _ => cases e

/-! ### an item -/
theorem i_ix : IxR X (rG (km X) .E gIx) := by
  intro value slice pins s σ H v u a b Q I ra rb h hs
  obtain ⟨x, y, G, t, ex, ix, iy, e, q⟩ := h
  cases x with
  | lst l =>
    cases y with
    | int i =>
      obtain ⟨p, vs, rfl, h1, h2⟩ := ix.lst ex
      obtain rfl := iy.int
      obtain ⟨z, e1, e2⟩ := h2.at e
      exact ix_list value slice pins s σ H _ _ a b Q I ra rb ⟨p, vs, i, z, rfl, rfl, SqL.of h1, e1, qE q ex e2⟩ hs
    | _ => cases e
  | tup l =>
    cases y with
    | int i =>
      obtain ⟨p, vs, rfl, h1, h2⟩ := ix.tup
      obtain rfl := iy.int
      obtain ⟨z, e1, e2⟩ := h2.at e
      exact ix_tup value slice pins s σ H _ _ a b Q I ra rb ⟨p, vs, i, z, rfl, rfl, ex_t ex h1, e1, qE q ex e2⟩ hs
    | _ => cases e
  | fro l =>
    cases y with
    | int i =>
      obtain ⟨p, rfl, h1⟩ := ix.fro
      obtain rfl := iy.int
      have e' : (atI l i).map T.int = some t := e
      cases q1 : atI l i with
      | none => rw [q1] at e'; cases e'
      | some n =>
        rw [q1] at e'
        obtain rfl := Option.some.inj e'
        obtain ⟨j, e1, e2⟩ := atI_len (ys := l.map V.int) (by rw [List.length_map]) q1
        have e3 := e2 (.int n) (by rw [List.getElem?_map, e1]; rfl)
        exact ix_list value slice pins s σ H _ _ a b Q I ra rb ⟨p, l.map V.int, i, .int n, rfl, rfl, ex_l ex h1, e3, qE q ex Is.intI⟩ hs
    | _ => cases e
  | _ => cases y <;> cases e
end
section
variable {X : Cx} {B : BS} {W : WX} {m : Md} {a b e : Expr} {fa fb f : FE} {pos : Pos}
theorem d_ix (ha : DE X B W .S a fa) (hb : DE X B W .S b fb) (hs : PlainIx b := by exact fun _ _ => rfl) : DE X B W .E (.Subscript a b pos) (eB gIx fa fb) :=
  PE.imp (pe_ix i_ix ha hb hs) fun σ H Q ⟨ρ, G, s, p⟩ => rG_of s p
/-- -e -/
def eNeg (fa : FE) : FE := fun ρ => (fa ρ).bind fun x => match x with | .int i => .ok (.int (-i)) | _ => .bad
theorem d_neg (ha : DE X B W .S a fa) : DE X B W .E (.UnaryOp .USub a pos) (eNeg fa) :=
  PE.imp (pe_un un_neg ha) fun σ H Q ⟨ρ, G, s, p⟩ => bindS s p fun x v H1 G1 g s1 i1 p1 => by
    cases x with
    | int i => exact ⟨i, i1.int, qE p1 s1.exGH Is.intI⟩
    | _ => exact p1.elim
end
end VS

namespace VS
open PySem PySem.Spec PyProof.Rows L2 Evl

/-! ### argument lists -/
abbrev FA := Ev' → Res (List T)
def aNil : FA := fun _ => .ok []
def aCons (fa : FE) (fr : FA) : FA := fun ρ => (fa ρ).bind fun x => (fr ρ).bind fun xs => .ok (x :: xs)
def IsSL (C : KM) (H G : Hp) : List T → List V → Prop
  | [], vs => vs = []
  | t :: ts, vs => ∃ v r, vs = v :: r ∧ IsS C H G t v ∧ IsSL C H G ts r
theorem IsSL.mono {C : KM} {H G H' G' : Hp} (g : Gr H G H' G') : ∀ {ts : List T} {vs : List V}, IsSL C H G ts vs → IsSL C H' G' ts vs
  | [], _, h => h
  | t :: ts, _, h => by
    obtain ⟨v, r, rfl, h1, h2⟩ := h
    exact ⟨v, r, rfl, h1.mono g, IsSL.mono g h2⟩
theorem IsSL.is {C : KM} {H G : Hp} (e : Ex G H) : ∀ {ts : List T} {vs : List V}, IsSL C H G ts vs → IsL C H ts vs
  | [], _, h => by unfold IsL; exact h
  | t :: ts, _, h => by
    obtain ⟨v, r, rfl, h1, h2⟩ := h
    exact IsL.cons (h1.is e) (IsSL.is e h2)
def Md.IsL (C : KM) (m : Md) (ts : List T) (vs : List V) (H' G' : Hp) : Prop :=
  match m with
  | .E => VS.IsL C G' ts vs
  | _ => IsSL C H' G' ts vs
def PostA (C : KM) (m : Md) (W : WX) (σ : L2.St) (H G : Hp) (r : Res (List T)) (Q : List V → Hp → Prop) : Prop :=
  match r with
  | .ok ts => ∀ vs H' G', Gr H G H' G' → m.IsL C ts vs H' G' → Q vs H'
  | .ex x p => ∀ cls d H' G', Gr H G H' G' → XAt C x p cls d G' → W cls d σ H'
  | .bad => False
theorem PostA.mono {C : KM} {m : Md} {W : WX} {σ : L2.St} {H G H1 G1 : Hp} {r : Res (List T)} {Q : List V → Hp → Prop} (g : Gr H G H1 G1) (h : PostA C m W σ H G r Q) : PostA C m W σ H1 G1 r Q := by
  cases r with
  | ok t => exact fun v H' G' g' i => h v H' G' (g.trans g') i
  | ex x p => exact fun cls d H' G' g' i => h cls d H' G' (g.trans g') i
  | bad => exact h
def tMA (C : KM) (B : BS) (m : Md) (W : WX) (f : FA) : TA := fun σ H Q => ∃ ρ G, SR C B σ H ρ G ∧ PostA C m W σ H G (f ρ) Q
def DA (X : Cx) (B : BS) (W : WX) (m : Md) (es : List Expr) (f : FA) : Prop := PA X es (tMA (km X) B m W f)
section
variable {C : KM} {B : BS} {m : Md} {W : WX} {σ : L2.St} {H G : Hp} {ρ : Ev'}
/-- an argument list, then what follows -/
theorem bindA {fa : FA} {k : List T → Res T} {Q : VK} {Q1 : List V → Hp → Prop} (h : SR C B σ H ρ G) (p : Post C m W σ H G ((fa ρ).bind k) Q) (ma : Md)
    (c : ∀ ts vs H1 G1, Gr H G H1 G1 → SR C B σ H1 ρ G1 → ma.IsL C ts vs H1 G1 → Post C m W σ H1 G1 (k ts) Q → Q1 vs H1) : tMA C B ma W fa σ H Q1 := by
  refine ⟨ρ, G, h, ?_⟩
  cases e : fa ρ with
  | ok t =>
    rw [e] at p
    exact fun v H' G' g i => c t v H' G' g (h.ext g) i (p.mono g)
  | ex x p' =>
    rw [e] at p
    exact p
  | bad =>
    rw [e] at p
    exact p.elim
end
section
variable {X : Cx} {B : BS} {W : WX} {m : Md} {a b e : Expr} {fa fb f : FE} {fr : FA} {pos : Pos} {es : List Expr}
theorem a_nil : DA X B W m [] aNil := PA.imp pa_nil fun σ H Q ⟨ρ, G, s, p⟩ => p [] H G (Gr.refl s.exGH) (by cases m <;> first | exact IsL.nil | rfl)
theorem a_consE (ha : DE X B W .E a fa) (hr : DA X B W .E es fr) (hs : starEach (a :: es) X.env = (false, eval a X.env) :: starEach es X.env := by rfl) : DA X B W .E (a :: es) (aCons fa fr) :=
  PA.imp (pa_cons ha hr hs) fun σ H Q ⟨ρ, G, s, p⟩ => by
    refine ⟨ρ, G, s, ?_⟩
    unfold aCons at p
    cases ea : fa ρ with
    | ok t =>
      rw [ea] at p
      intro v H1 G1 g1 i1
      refine ⟨ρ, G1, s.ext g1, ?_⟩
      cases er : fr ρ with
      | ok ts =>
        rw [er] at p
        intro vs H2 G2 g2 i2
        exact p (v :: vs) H2 G2 (g1.trans g2) (IsL.cons (Is.mono g2.eg _ _ i1) i2)
      | ex x q =>
        rw [er] at p
        exact fun cls d H' G' g i => p cls d H' G' (g1.trans g) i
      | bad =>
        rw [er] at p
        exact p
    | ex x q =>
      rw [ea] at p
      exact p
    | bad =>
      rw [ea] at p
      exact p
theorem a_consS (ha : DE X B W .S a fa) (hr : DA X B W .S es fr) (hs : starEach (a :: es) X.env = (false, eval a X.env) :: starEach es X.env := by rfl) : DA X B W .S (a :: es) (aCons fa fr) :=
  PA.imp (pa_cons ha hr hs) fun σ H Q ⟨ρ, G, s, p⟩ => by
    refine ⟨ρ, G, s, ?_⟩
    unfold aCons at p
    cases ea : fa ρ with
    | ok t =>
      rw [ea] at p
      intro v H1 G1 g1 i1
      refine ⟨ρ, G1, s.ext g1, ?_⟩
      cases er : fr ρ with
      | ok ts =>
        rw [er] at p
        intro vs H2 G2 g2 i2
        exact p (v :: vs) H2 G2 (g1.trans g2) ⟨v, vs, rfl, IsS.mono g2 i1, i2⟩
      | ex x q =>
        rw [er] at p
        exact fun cls d H' G' g i => p cls d H' G' (g1.trans g) i
      | bad =>
        rw [er] at p
        exact p
    | ex x q =>
      rw [ea] at p
      exact p
    | bad =>
      rw [ea] at p
      exact p

/-! ### displays -/
def eTup (fa : FA) : FE := fun ρ => (fa ρ).bind fun ts => if ts.length ≤ 100000 then .ok (.tup ts) else .bad
def eLst (fa : FA) : FE := fun ρ => (fa ρ).bind fun ts => if ts.length ≤ 100000 then .ok (.lst ts) else .bad
theorem d_tup {x1} (h : DA X B W .E es fr) : DE X B W .E (.Tuple es x1 pos) (eTup fr) :=
  PE.imp (pe_tup h) fun σ H Q ⟨ρ, G, s, p⟩ => bindA s p .E fun ts vs H1 G1 g s1 i p1 => by
    split at p1
    · rename_i hl
      refine ⟨sz_of (by rw [← IsL.length i]; exact hl), fun n hn => ?_⟩
      obtain ⟨g1, g2⟩ := new_tup (C := km X) s1.exGH hn i
      exact p1 _ _ _ g1 g2
    · exact p1.elim
theorem d_lst (h : DA X B W .E es fr) : DE X B W .N (.List es pos) (eLst fr) :=
  PE.imp (pe_lst h) fun σ H Q ⟨ρ, G, s, p⟩ => bindA s p .E fun ts vs H1 G1 g s1 i p1 => by
    split at p1
    · rename_i hl
      refine ⟨sz_of (by rw [← IsL.length i]; exact hl), fun n hn => ?_⟩
      exact p1 _ _ G1 (Gr.own s1.exGH hn) ⟨n, _, rfl, hn, upd_same, ex_none s1.exGH hn, vs, rfl, i⟩
    · exact p1.elim

/-! ### built-in functions of one argument -/
def rC (C : KM) (m : Md) (g : T → Option T) : List V → Hp → VK → Prop := fun vs H Q => ∃ x v G t, vs = [v] ∧ Ex G H ∧ IsS C H G x v ∧ g x = some t ∧ ∀ z H' G', Gr H G H' G' → m.Is C t z H H' G' → Q z H'
def eU (g : T → Option T) (fa : FE) : FE := fun ρ => (fa ρ).bind fun x => Res.of (g x)
theorem rC_of {C : KM} {σ : L2.St} {H G : Hp} {ρ : Ev'} {Q : VK} {g : T → Option T} (h : SR C B σ H ρ G) (p : Post C m W σ H G (eU g fa ρ) Q) : tCB (rC C m g) (tCons (tM C B .S W fa) tNil) σ H Q := by
  refine bindS h p fun x v H1 G1 g1 s1 i1 p1 => ?_
  obtain ⟨t, e, q⟩ := p1.of
  exact ⟨x, v, G1, t, rfl, s1.exGH, i1, e, q⟩
theorem d_cB {id : String} {x : Str} {p : Pos} {g : T → Option T} (hc : CallR X (.builtin id) (rC (km X) m g)) (hg : Gl X x) (hm : X.mg x = none) (hv : bootBuiltins x = some (.builtin id)) (ha : DE X B W .S a fa) (hn : x ≠ "__name__" := by decide)
    (hdb : (x == ("__debug__" : Str)) = false := by decide) (he : starEach [a] X.env = (false, eval a X.env) :: starEach [] X.env := by rfl) (hpl : (backTo pos (starEach [] X.env)).any (·.1) = false := by rfl) :
    DE X B W m (.Call (.Name x p) [a] [] pos) (eU g fa) := PE.imp (pe_callB hc hg hm hv (pa_cons ha pa_nil he) hn hdb he hpl) fun σ H Q ⟨ρ, G, s, q⟩ => rC_of s q
theorem d_cT {n : String} {x : Str} {p : Pos} {g : T → Option T} (hc : CallR X (.type n) (rC (km X) m g)) (hg : Gl X x) (hm : X.mg x = none) (hv : bootBuiltins x = some (.type n)) (ha : DE X B W .S a fa) (hn : x ≠ "__name__" := by decide)
    (hdb : (x == ("__debug__" : Str)) = false := by decide) (he : starEach [a] X.env = (false, eval a X.env) :: starEach [] X.env := by rfl) (hpl : (backTo pos (starEach [] X.env)).any (·.1) = false := by rfl) :
    DE X B W m (.Call (.Name x p) [a] [] pos) (eU g fa) := PE.imp (pe_callTy hc hg hm hv (pa_cons ha pa_nil he) hn hdb he hpl) fun σ H Q ⟨ρ, G, s, q⟩ => rC_of s q
end
def gLen : T → Option T
  | .lst l => some (.int l.length)
  | .tup l => some (.int l.length)
  | .fro l => some (.int l.length)
  | .str x => if x.length ≤ 100000 then some (.int x.length) else none
  | _ => none
def gInt : T → Option T
  | .int i => some (.int i)
  | .bl b => some (.int (if b then 1 else 0))
  | _ => none
def gList : T → Option T
  | .lst l => some (.lst l)
  | .tup l => some (.lst l)
  | _ => none
def gTuple : T → Option T
  | .lst l => some (.tup l)
  | .tup l => some (.tup l)
  | _ => none
def T.bl? : T → Option Bool
  | .bl b => some b
  | _ => none
def bls : List T → Option (List Bool)
  | [] => some []
  | .bl b :: r => (bls r).map (b :: ·)
  | _ => none
def gAll : T → Option T
  | .lst l => (bls l).map fun bs => .bl (bs.all id)
  | _ => none
def gAny : T → Option T
  | .lst l => (bls l).map fun bs => .bl (bs.any id)
  | _ => none
def tyName : T → Option String
  | .non => some "NoneType"
  | .bl _ => some "bool"
  | .int _ => some "int"
  | .str _ => some "str"
  | .tup _ => some "tuple"
  | .lst _ => some "list"
  | .dic _ _ => some "dict"
  | _ => none
def gType (x : T) : Option T := (tyName x).map T.ty
section
variable {X : Cx} {C : KM} {H G : Hp}
theorem c_len : CallR X (.builtin "len") (rC (km X) .E gLen) := by
  intro pins s σ H xs us Q I r h
  obtain ⟨x, v, G, t, rfl, ex, ix, e, q⟩ := h
  cases x with
  | lst l =>
    obtain rfl := Option.some.inj e
    obtain ⟨a, vs, rfl, h1, h2⟩ := ix.lst ex
    refine call_len_seq pins s σ H _ us Q I r ⟨a, vs, rfl, .inl (SqL.of h1), ?_⟩
    rw [← h2.length]
    exact qE q ex Is.intI
  | tup l =>
    obtain rfl := Option.some.inj e
    obtain ⟨a, vs, rfl, h1, h2⟩ := ix.tup
    refine call_len_seq pins s σ H _ us Q I r ⟨a, vs, rfl, .inr (ex_t ex h1), ?_⟩
    rw [← h2.length]
    exact qE q ex Is.intI
  | fro l =>
    obtain rfl := Option.some.inj e
    obtain ⟨a, rfl, h1⟩ := ix.fro
    refine call_len_seq pins s σ H _ us Q I r ⟨a, l.map V.int, rfl, .inl (ex_l ex h1), ?_⟩
    rw [List.length_map]
    exact qE q ex Is.intI
  | str z =>
    simp only [gLen] at e
    split at e
    · rename_i hl
      obtain rfl := Option.some.inj e
      obtain rfl := ix.str
      exact call_len_str pins s σ H _ us Q I r ⟨z, rfl, sz_of hl, qE q ex Is.intI⟩
    · cases e
  | _ => cases e
theorem c_int : CallR X (.type "int") (rC (km X) .E gInt) := by
  intro pins s σ H xs us Q I r h
  obtain ⟨x, v, G, t, rfl, ex, ix, e, q⟩ := h
  cases x with
  | int i =>
    obtain rfl := Option.some.inj e
    obtain rfl := ix.int
    exact call_int1 pins s σ H _ us Q I r (.inl ⟨i, rfl, qE q ex Is.intI⟩)
  | bl b =>
    obtain rfl := Option.some.inj e
    obtain rfl := ix.bl
    exact call_int1 pins s σ H _ us Q I r (.inr ⟨b, rfl, qE q ex Is.intI⟩)
  | _ => cases e
theorem c_list : CallR X (.type "list") (rC (km X) .N gList) := by
  intro pins s σ H xs us Q I r h
  obtain ⟨x, v, G, t, rfl, ex, ix, e, q⟩ := h
  cases x with
  | lst l =>
    obtain rfl := Option.some.inj e
    obtain ⟨a, vs, rfl, h1, h2⟩ := ix.lst ex
    exact call_list_of pins s σ H _ us Q I r ⟨a, vs, rfl, .inl (SqL.of h1), fun p hp => q _ _ G (Gr.own ex hp) ⟨p, _, rfl, hp, upd_same, ex_none ex hp, vs, rfl, h2⟩⟩
  | tup l =>
    obtain rfl := Option.some.inj e
    obtain ⟨a, vs, rfl, h1, h2⟩ := ix.tup
    exact call_list_of pins s σ H _ us Q I r ⟨a, vs, rfl, .inr (ex_t ex h1), fun p hp => q _ _ G (Gr.own ex hp) ⟨p, _, rfl, hp, upd_same, ex_none ex hp, vs, rfl, h2⟩⟩
  | _ => cases e
theorem c_tuple : CallR X (.type "tuple") (rC (km X) .E gTuple) := by
  intro pins s σ H xs us Q I r h
  obtain ⟨x, v, G, t, rfl, ex, ix, e, q⟩ := h
  cases x with
  | lst l =>
    obtain rfl := Option.some.inj e
    obtain ⟨a, vs, rfl, h1, h2⟩ := ix.lst ex
    refine call_tuple_of pins s σ H _ us Q I r ⟨a, vs, rfl, .inl ⟨SqL.of h1, fun p hp => ?_⟩⟩
    obtain ⟨g1, g2⟩ := new_tup (C := km X) ex hp h2
    exact q _ _ _ g1 g2
  | tup l =>
    obtain rfl := Option.some.inj e
    obtain ⟨a, vs, rfl, h1, h2⟩ := ix.tup
    exact call_tuple_of pins s σ H _ us Q I r ⟨a, vs, rfl, .inr ⟨ex_t ex h1, qE q ex (Is.tupI h1 h2)⟩⟩
  | _ => cases e
theorem bls_vals : ∀ {l : List T} {vs : List V} {bs : List Bool}, IsL C G l vs → bls l = some bs → vs = bs.map V.bl
  | [], _, bs, h, e => by
    unfold IsL at h; subst h
    obtain rfl := Option.some.inj e
    rfl
  | t :: l, _, bs, h, e => by
    unfold IsL at h
    obtain ⟨v, r, rfl, h2, h3⟩ := h
    cases t with
    | bl b =>
      have e' : (bls l).map (b :: ·) = some bs := e
      cases q : bls l with
      | none => rw [q] at e'; cases e'
      | some bs' =>
        rw [q] at e'
        obtain rfl := Option.some.inj e'
        have ih := bls_vals h3 q
        unfold Is at h2
        rw [ih, h2]
        rfl
    | _ => cases e
theorem c_all (hc : X.calm = true) : CallR X (.builtin "all") (rC (km X) .E gAll) := by
  intro pins s σ H xs us Q I r h
  obtain ⟨x, v, G, t, rfl, ex, ix, e, q⟩ := h
  cases x with
  | lst l =>
    have e' : (bls l).map (fun bs => T.bl (bs.all id)) = some t := e
    cases q1 : bls l with
    | none => rw [q1] at e'; cases e'
    | some bs =>
      rw [q1] at e'
      obtain rfl := Option.some.inj e'
      obtain ⟨a, vs, rfl, h1, h2⟩ := ix.lst ex
      obtain rfl := bls_vals h2 q1
      exact cr_all hc pins s σ H _ us Q I r ⟨a, bs, rfl, SqL.of h1, qE q ex Is.blI⟩
  | _ => cases e
theorem c_any (hc : X.calm = true) : CallR X (.builtin "any") (rC (km X) .E gAny) := by
  intro pins s σ H xs us Q I r h
  obtain ⟨x, v, G, t, rfl, ex, ix, e, q⟩ := h
  cases x with
  | lst l =>
    have e' : (bls l).map (fun bs => T.bl (bs.any id)) = some t := e
    cases q1 : bls l with
    | none => rw [q1] at e'; cases e'
    | some bs =>
      rw [q1] at e'
      obtain rfl := Option.some.inj e'
      obtain ⟨a, vs, rfl, h1, h2⟩ := ix.lst ex
      obtain rfl := bls_vals h2 q1
      exact cr_any hc pins s σ H _ us Q I r ⟨a, bs, rfl, SqL.of h1, qE q ex Is.blI⟩
  | _ => cases e
theorem tyB_of {x : T} {v : V} {n : String} (ex : Ex G H) (ix : IsS C H G x v) (e : tyName x = some n) : TyB C.K H v n := by
  cases x with
  | non => obtain rfl := Option.some.inj e; rw [ix.non]; exact .non
  | bl b => obtain rfl := Option.some.inj e; rw [ix.bl]; exact .bl b
  | int b => obtain rfl := Option.some.inj e; rw [ix.int]; exact .int b
  | str b => obtain rfl := Option.some.inj e; rw [ix.str]; exact .str b
  | tup l =>
    obtain rfl := Option.some.inj e
    obtain ⟨a, vs, rfl, h1, _⟩ := ix.tup
    exact .tup (ex_t ex h1)
  | lst l =>
    obtain rfl := Option.some.inj e
    obtain ⟨a, vs, rfl, h1, _⟩ := ix.lst ex
    exact .lst (SqL.of h1)
  | dic l l' =>
    obtain rfl := Option.some.inj e
    obtain ⟨a, vs, rfl, h1, _⟩ := ix.dic ex
    exact .dK h1
  | _ => cases e
theorem tyX_of {x : T} {v : V} {n : String} (ex : Ex G H) (ix : IsS C H G x v) (e : tyName x = some n) : TyX C.K H v (.type n) := by
  cases x with
  | non => obtain rfl := Option.some.inj e; rw [ix.non]; exact .base .non
  | bl b => obtain rfl := Option.some.inj e; rw [ix.bl]; exact .base (.bl b)
  | int b => obtain rfl := Option.some.inj e; rw [ix.int]; exact .base (.int b)
  | str b => obtain rfl := Option.some.inj e; rw [ix.str]; exact .base (.str b)
  | tup l =>
    obtain rfl := Option.some.inj e
    obtain ⟨a, vs, rfl, h1, _⟩ := ix.tup
    rcases ex_t ex h1 with (h | ⟨o, h⟩) | ⟨o, its, n, h, hc, _⟩
    · exact .base (.tup h)
    · exact .fTuple h
    · exact .kTuple h hc
  | lst l =>
    obtain rfl := Option.some.inj e
    obtain ⟨a, vs, rfl, h1, _⟩ := ix.lst ex
    exact .base (.lst h1)
  | dic l l' =>
    obtain rfl := Option.some.inj e
    obtain ⟨a, vs, rfl, h1, _⟩ := ix.dic ex
    exact .base (.dK h1)
  | _ => cases e
theorem c_type : CallR X (.type "type") (rC (km X) .E gType) := by
  intro pins s σ H xs us Q I r h
  obtain ⟨x, v, G, t, rfl, ex, ix, e, q⟩ := h
  unfold gType at e
  cases q1 : tyName x with
  | none => rw [q1] at e; cases e
  | some n =>
    rw [q1] at e
    obtain rfl := Option.some.inj e
    exact call_type1 pins s σ H _ us Q I r ⟨v, n, rfl, tyB_of (C := km X) ex ix q1, qE q ex (by unfold Is; rfl)⟩
def gTyIs (neg : Bool) (x y : T) : Option T :=
  match x, y with
  | .ty a, .ty b => some (.bl (if neg then !decide (a = b) else decide (a = b)))
  | _, _ => none
theorem o_tyIs : OpR X (compareOp .Is) (rG (km X) .E (gTyIs false)) := by
  intro pins s σ H v u a b Q I ra rb h
  obtain ⟨x, y, G, t, ex, ix, iy, e, q⟩ := h
  cases x <;> cases y <;> first | cases e | skip
  rename_i i j
  obtain rfl := ix.ty
  obtain rfl := iy.ty
  exact op_isTyB pins s σ H _ _ a b Q I ra rb ⟨i, j, rfl, rfl, qE q ex Is.blI⟩
theorem o_tyNot : OpR X (compareOp .IsNot) (rG (km X) .E (gTyIs true)) := by
  intro pins s σ H v u a b Q I ra rb h
  obtain ⟨x, y, G, t, ex, ix, iy, e, q⟩ := h
  cases x <;> cases y <;> first | cases e | skip
  rename_i i j
  obtain rfl := ix.ty
  obtain rfl := iy.ty
  exact op_notTyB pins s σ H _ _ a b Q I ra rb ⟨i, j, rfl, rfl, qE q ex Is.blI⟩
end

/-! ### isinstance(x, T), T a built-in type -/
def isiT (a b : String) : Bool := a == b || (a == "bool" && b == "int")
def tyOk (n : String) : Bool := ["int", "bool", "str", "tuple", "list", "dict"].contains n
theorem kitB_isi {a : T} {n m : String} (h : tyName a = some n) (k : tyOk m = true) : kitB n m = some (isiT n m) := by
  have hm : m = "int" ∨ m = "bool" ∨ m = "str" ∨ m = "tuple" ∨ m = "list" ∨ m = "dict" := by
    simp only [tyOk, List.contains_cons, List.contains_nil, Bool.or_false, Bool.or_eq_true, beq_iff_eq] at k
    exact k
  have hn : n = "NoneType" ∨ n = "int" ∨ n = "bool" ∨ n = "str" ∨ n = "tuple" ∨ n = "list" ∨ n = "dict" := by
    cases a <;> first | (obtain rfl := Option.some.inj h; simp; done) | cases h
  rcases hm with rfl | rfl | rfl | rfl | rfl | rfl <;> rcases hn with rfl | rfl | rfl | rfl | rfl | rfl | rfl <;> decide +kernel
def gIsi (m : String) (x : T) : Option T := if tyOk m then (tyName x).map fun n => .bl (isiT n m) else none
section
variable {X : Cx} {B : BS} {W : WX} {m : Md} {a b e : Expr} {fa fb f : FE} {fr : FA} {pos p p2 : Pos} {es : List Expr}
theorem d_isi {n : String} {x : Str} (hg : Gl X "isinstance") (hm : X.mg "isinstance" = none) (ha : DE X B W .S a fa) (hgt : Gl X x) (hmt : X.mg x = none) (hvt : bootBuiltins x = some (.type n)) (hnt : x ≠ "__name__" := by decide) (hdt : (x == ("__debug__" : Str)) = false := by decide)
    (hv : bootBuiltins "isinstance" = some (.builtin "isinstance") := by decide +kernel) (he : starEach [a, .Name x p2] X.env = (false, eval a X.env) :: starEach [.Name x p2] X.env := by rfl) (hpl : (backTo pos (starEach [.Name x p2] X.env)).any (·.1) = false := by rfl) :
    DE X B W .E (.Call (.Name "isinstance" p) [a, .Name x p2] [] pos) (eU (gIsi n) fa) :=
  PE.imp (pe_callB call_isi hg hm hv (pa_cons ha (pa_cons (pe_bltn (v := .ty n) hgt hmt hvt rfl hnt hdt) pa_nil) he) (by decide) (by decide) he hpl) fun σ H Q ⟨ρ, G, s, q⟩ =>
    bindS s q fun x v H1 G1 g s1 i p1 => by
      obtain ⟨t, e, q1⟩ := p1.of
      unfold gIsi at e
      split at e
      · rename_i k
        cases q2 : tyName x with
        | none => rw [q2] at e; cases e
        | some nn =>
          rw [q2] at e
          obtain rfl := Option.some.inj e
          exact ⟨v, .ty n, .type nn, .type n, isiT nn n, rfl, .ty n, tyX_of (C := km X) s1.exGH i q2, kit_ty (kitB_isi q2 k), qE q1 s1.exGH Is.blI⟩
      · cases e

/-! ### a def of the text -/
abbrev Mir := List T → Res T
def PostF (C : KM) (H G : Hp) (r : Res T) (Q : VK) (E : XK) : Prop :=
  match r with
  | .ok t => ∀ v H' G', Gr H G H' G' → Is C G' t v → Q v H'
  | .ex x p => ∀ cls d H' G', Gr H G H' G' → XAt C x p cls d G' → E cls d H'
  | .bad => False
def spD (C : KM) (n : Nat) (f : Mir) : Sp := fun vs H Q E => ∃ ts G, Ex G H ∧ IsL C G ts vs ∧ ts.length = n ∧ PostF C H G (f ts) Q E
theorem spD_len {C : KM} {n : Nat} {f : Mir} {vs : List V} {H : Hp} {Q : VK} {E : XK} (h : spD C n f vs H Q E) : vs.length = n := by
  obtain ⟨ts, G, _, h1, h2, _⟩ := h
  rw [← h1.length]
  exact h2
def Tk (X : Cx) (W : WX) : Prop := ∀ σ, PassesAt (L2.CX X.prog X.w) X σ (WE W σ)
theorem tk_of {X : Cx} {W : WX} (h : Takes X W) : Tk X W := fun σ => passAt h σ
def eCall (n : Nat) (f : Mir) (fa : FA) : FE := fun ρ => (fa ρ).bind fun ts => if ts.length = n then f ts else .bad
theorem d_call {k n : Nat} {f : Addr} {fd : FuncData} {ps : List Str} {g : Mir} {x : Str} (F : FnOk X.prog X.w X.K X.mg X.base (L2.CX X.prog X.w) k f fd ps (spD (km X) n g)) (hr : Room k X.A) (hg : Gl X x) (hm : X.mg x = some (.ref f)) (hk : PySem.W.keepIn X.K (.ref f) = true)
    (hb : Binds X.K fd ps []) (tk : Tk X W) (ha : DA X B W .E (e :: es) fr) (hdb : (x == ("__debug__" : Str)) = false := by decide) (he : starEach (e :: es) X.env = (false, eval e X.env) :: starEach es X.env := by rfl) (hpl : (backTo pos (starEach es X.env)).any (·.1) = false := by rfl) :
    DE X B W .E (.Call (.Name x p) (e :: es) [] pos) (eCall n g fr) :=
  PE.imp (pe_callS F hr hg hm hk hb tk ha hdb he hpl) fun σ H Q ⟨ρ, G, s, q⟩ => bindA s q .E fun ts vs H1 G1 gr s1 i p1 => by
    split at p1
    · rename_i hl
      refine ⟨ts, G1, s1.exGH, i, hl, ?_⟩
      cases r : g ts with
      | ok t => rw [r] at p1; exact p1
      | ex x q => rw [r] at p1; exact p1
      | bad => rw [r] at p1; exact p1.elim
    · exact p1.elim
theorem flat_is {C : KM} {H G : Hp} {t : T} {v : V} (f : t.flat = true) (h : Is C H t v) : Is C G t v := by
  cases t with
  | non => unfold Is at h ⊢; exact h
  | bl b => unfold Is at h ⊢; exact h
  | int b => unfold Is at h ⊢; exact h
  | str b => unfold Is at h ⊢; exact h
  | _ => cases f
/-- .. whose arguments are read only, the answer a plain value -/
def noPay (r : Res T) : Res T := match r with | .ok t => if t.flat then .ok t else .bad | .ex x [] => .ex x [] | _ => .bad
def eCallS (n : Nat) (f : Mir) (fa : FA) : FE := fun ρ => (fa ρ).bind fun ts => if ts.length = n then noPay (f ts) else .bad
theorem d_callS {k n : Nat} {f : Addr} {fd : FuncData} {ps : List Str} {g : Mir} {x : Str} (F : FnOk X.prog X.w X.K X.mg X.base (L2.CX X.prog X.w) k f fd ps (spD (km X) n g)) (hr : Room k X.A) (hg : Gl X x) (hm : X.mg x = some (.ref f)) (hk : PySem.W.keepIn X.K (.ref f) = true)
    (hb : Binds X.K fd ps []) (tk : Tk X W) (ha : DA X B W .S (e :: es) fr) (hdb : (x == ("__debug__" : Str)) = false := by decide) (he : starEach (e :: es) X.env = (false, eval e X.env) :: starEach es X.env := by rfl) (hpl : (backTo pos (starEach es X.env)).any (·.1) = false := by rfl) :
    DE X B W .E (.Call (.Name x p) (e :: es) [] pos) (eCallS n g fr) :=
  PE.imp (pe_callS F hr hg hm hk hb tk ha hdb he hpl) fun σ H Q ⟨ρ, G, s, q⟩ => bindA s q .S fun ts vs H1 G1 gr s1 i p1 => by
    split at p1
    · rename_i hl
      refine ⟨ts, H1, Ex.refl _, IsSL.is s1.exGH i, hl, ?_⟩
      have back : ∀ {H' G' : Hp}, Gr H1 H1 H' G' → Gr H1 G1 H' G1 := fun {H' G'} w => ⟨w.eh, Ex.refl _, s1.exGH.trans w.eh, fun _ _ z _ => z⟩
      cases r : g ts with
      | ok t =>
        rw [r] at p1
        have p2 : Post (km X) .E W σ H1 G1 (if t.flat then .ok t else .bad) Q := p1
        split at p2
        · rename_i fl
          exact fun v H' G' w iv => p2 v H' G1 (back w) (flat_is fl iv)
        · exact p2.elim
      | ex x q =>
        rw [r] at p1
        cases q with
        | nil =>
          intro cls d H' G' w ix
          obtain ⟨D', h1, h2, h3⟩ := ix
          exact p1 cls d H' G1 (back w) ⟨D', h1, h2, h3⟩
        | cons _ _ => exact p1.elim
      | bad => rw [r] at p1; exact p1.elim
    · exact p1.elim
end
end VS

namespace VS
open PySem PySem.Spec PyProof.Rows L2 Evl

theorem Is.int1 {C : KM} {G : Hp} {i : Int} {v : V} (h : Is C G (.int i) v) : v = .int i := by unfold Is at h; exact h
theorem Md.int1 {C : KM} {H H' G' : Hp} {i : Int} {v : V} (h : Md.Is C .E (.int i) v H H' G') : v = .int i := Is.int1 (C := C) (G := G') h
/-! ### slices -/
abbrev FO := Ev' → Res (Option Int)
def oNone : FO := fun _ => .ok none
def oSome (fa : FE) : FO := fun ρ => (fa ρ).bind fun x => match x with | .int i => .ok (some i) | _ => .bad
def cutT {α : Type} (xs : List α) (lo hi : Option Int) : List α := (xs.drop (HT.sIx xs.length 0 lo)).take (HT.sIx xs.length xs.length hi - HT.sIx xs.length 0 lo)
def gSl (x : T) (lo hi : Option Int) : Option T :=
  match x with
  | .lst l => some (.lst (cutT l lo hi))
  | .tup l => some (.tup (cutT l lo hi))
  | _ => none
def eSl (fa : FE) (fl fh : FO) : FE := fun ρ => (fa ρ).bind fun x => (fl ρ).bind fun lo => (fh ρ).bind fun hi => Res.of (gSl x lo hi)
def PostO (C : KM) (W : WX) (σ : L2.St) (H G : Hp) (r : Res (Option Int)) (Q : Option Int → Hp → Prop) : Prop :=
  match r with
  | .ok o => ∀ H' G', Gr H G H' G' → Q o H'
  | .ex x p => ∀ cls d H' G', Gr H G H' G' → XAt C x p cls d G' → W cls d σ H'
  | .bad => False
def tMO (C : KM) (B : BS) (W : WX) (f : FO) : TO := fun σ H Q => ∃ ρ G, SR C B σ H ρ G ∧ PostO C W σ H G (f ρ) Q
def DO (X : Cx) (B : BS) (W : WX) (e : Option Expr) (f : FO) : Prop := PO X e (tMO (km X) B W f)
theorem PO.imp {X : Cx} {e : Option Expr} {t t' : TO} (h : PO X e t) (i : ∀ σ H Q, t' σ H Q → t σ H Q) : PO X e t' := ⟨fun pins s σ H Q I q => h.run pins s σ H Q I (i σ H Q q)⟩
section
variable {C : KM} {B : BS} {m : Md} {W : WX} {σ : L2.St} {H G : Hp} {ρ : Ev'}
theorem bindO {fo : FO} {k : Option Int → Res T} {Q : VK} {Q1 : Option Int → Hp → Prop} (h : SR C B σ H ρ G) (p : Post C m W σ H G ((fo ρ).bind k) Q)
    (c : ∀ o H1 G1, Gr H G H1 G1 → SR C B σ H1 ρ G1 → Post C m W σ H1 G1 (k o) Q → Q1 o H1) : tMO C B W fo σ H Q1 := by
  refine ⟨ρ, G, h, ?_⟩
  cases e : fo ρ with
  | ok t =>
    rw [e] at p
    exact fun H' G' g => c t H' G' g (h.ext g) (p.mono g)
  | ex x p' =>
    rw [e] at p
    exact p
  | bad =>
    rw [e] at p
    exact p.elim
theorem cut_is {l : List T} {vs : List V} (h : IsL C G l vs) (lo hi : Option Int) : IsL C G (cutT l lo hi) (cutV vs lo hi) := by
  unfold cutT cutV
  rw [h.length]
  exact (h.drop _).take _
theorem cut_all {l : List T} {lo hi : Option Int} (h : HT.sIx l.length 0 lo = 0 ∧ HT.sIx l.length l.length hi = l.length) : cutT l lo hi = l := by
  unfold cutT
  rw [h.1, h.2]
  simp
end
section
variable {X : Cx} {B : BS} {W : WX} {m : Md} {a b e : Expr} {fa fb f : FE} {fl fh : FO} {lo hi : Option Expr} {pos p2 : Pos}
theorem o_none : DO X B W none oNone := PO.imp po_none fun σ H Q ⟨ρ, G, s, p⟩ => p H G (Gr.refl s.exGH)
theorem o_some (ha : DE X B W .E a fa) : DO X B W (some a) (oSome fa) := PO.imp (po_some ha) fun σ H Q ⟨ρ, G, s, p⟩ => by
  refine ⟨ρ, G, s, ?_⟩
  unfold oSome at p
  cases e : fa ρ with
  | ok t =>
    rw [e] at p
    cases t with
    | int i => exact fun v H' G' g iv => ⟨i, Md.int1 iv, p H' G' g⟩
    | _ => exact p.elim
  | ex x q =>
    rw [e] at p
    exact p
  | bad =>
    rw [e] at p
    exact p.elim
/-- a list's or a tuple's slice -/
def rSlX (K : PySem.W.Frag) : V → Option Int → Option Int → Hp → VK → Prop := fun x lo hi H Q => rSlL K x lo hi H Q ∨ rSlA K x lo hi H Q
theorem d_sl (ha : DE X B W .S a fa) (hl : DO X B W lo fl) (hh : DO X B W hi fh) : DE X B W .E (.Subscript a (.Slice lo hi none p2) pos) (eSl fa fl fh) :=
  PE.imp (pe_slice (sl_list.or sl_tupA) ha hl hh) fun σ H Q ⟨ρ, G, s, p⟩ => bindS s p fun x v H1 G1 g1 s1 i1 p1 => bindO s1 p1 fun lo H2 G2 g2 s2 p2 => bindO s2 p2 fun hi H3 G3 g3 s3 p3 => by
    obtain ⟨t, e, q⟩ := p3.of
    have i3 := i1.mono (g2.trans g3)
    cases x with
    | lst l =>
      obtain rfl := Option.some.inj e
      obtain ⟨a, vs, rfl, h1, h2⟩ := i3.lst s3.exGH
      refine .inl ⟨a, vs, rfl, SqL.of h1, fun n hn => ?_⟩
      obtain ⟨w1, w2⟩ := new_lst (C := km X) s3.exGH hn (cut_is h2 lo hi)
      exact q _ _ _ w1 w2
    | tup l =>
      obtain rfl := Option.some.inj e
      obtain ⟨a, vs, rfl, h1, h2⟩ := i3.tup
      refine .inr ⟨a, vs, rfl, ex_t s3.exGH h1, fun w => ?_, fun w n hn => ?_⟩
      · rw [← h2.length] at w
        rw [cut_all w] at q
        exact qE q s3.exGH (Is.tupI h1 h2)
      · obtain ⟨w1, w2⟩ := new_tup (C := km X) s3.exGH hn (cut_is h2 lo hi)
        exact q _ _ _ w1 w2
    | _ => cases e
end

/-! ### statements -/
inductive Out where
  | nx (ρ : Ev') | rt (t : T) | bk (ρ : Ev') | ct (ρ : Ev') | ex (x : Str) (p : List T) (ρ : Ev') | bad
abbrev FS := Ev' → Out
def PostS (C : KM) (B : BS) (W : WX) (D : Ends) (G : Hp) (o : Out) : Prop :=
  match o with
  | .nx ρ => ∀ σ' H' G', SR C B σ' H' ρ G' → Ex G G' → D.nx σ' H'
  | .bk ρ => ∀ σ' H' G', SR C B σ' H' ρ G' → Ex G G' → D.bk σ' H'
  | .ct ρ => ∀ σ' H' G', SR C B σ' H' ρ G' → Ex G G' → D.ct σ' H'
  | .rt t => ∀ v H' G', Gr B.1 B.2 H' G' → B.rm.Is C B.w t v B.1 H' G' → D.rt v H'
  | .ex x p ρ => ∀ cls d σ' H' G', SR C B σ' H' ρ G' → Ex G G' → XAt C x p cls d G' → W cls d σ' H'
  | .bad => False
theorem PostS.mono {C : KM} {B : BS} {W : WX} {D : Ends} {G G1 : Hp} {o : Out} (e : Ex G G1) (h : PostS C B W D G o) : PostS C B W D G1 o := by
  cases o with
  | nx ρ => exact fun σ' H' G' s k => h σ' H' G' s (e.trans k)
  | bk ρ => exact fun σ' H' G' s k => h σ' H' G' s (e.trans k)
  | ct ρ => exact fun σ' H' G' s k => h σ' H' G' s (e.trans k)
  | rt t => exact h
  | ex x p ρ => exact fun cls d σ' H' G' s k => h cls d σ' H' G' s (e.trans k)
  | bad => exact h
def tS (C : KM) (B : BS) (W : WX) (f : FS) : TS := fun D σ H => ∃ ρ G, SR C B σ H ρ G ∧ PostS C B W D G (f ρ)
def DS (X : Cx) (B : BS) (W : WX) (st : Stmt) (f : FS) : Prop := PS X st (tS (km X) B W f)
def DSs (X : Cx) (B : BS) (W : WX) (st : List Stmt) (f : FS) : Prop := PSs X st (tS (km X) B W f)

/-! ### the state and the slots -/
section
variable {C : KM} {B : BS} {σ : L2.St} {H G : Hp} {ρ : Ev'}
theorem set_get {α : Type} {l : List α} {i j : Nat} {x y : α} (h : (l.set i x)[j]? = some y) : (j = i ∧ y = x) ∨ (j ≠ i ∧ l[j]? = some y) := by
  by_cases e : j = i
  · subst e
    by_cases hl : j < l.length
    · rw [List.getElem?_set_self hl] at h
      exact .inl ⟨rfl, (Option.some.inj h).symm⟩
    · rw [List.getElem?_eq_none (by simpa using hl)] at h
      cases h
  · rw [List.getElem?_set_ne (Ne.symm e)] at h
    exact .inr ⟨e, h⟩
theorem Dps.set {i : Nat} {w : Option V} {x : Sl} (s : Dps C B σ H ρ G) (hx : ∀ d, x ≠ .dp d) (how : ∀ t a, x = .ow t → w = some (.ref a) → ∀ (k : Nat) (d : D) (v : V) (F : List Addr), ρ[k]? = some (.dp d) → σ[k]? = some (some v) → Dv C B.w H G d v F → a ∉ F) : Dps C B (σ.set i w) H (ρ.set i x) G := by
  obtain ⟨Fp, h1, h2, h3, h4⟩ := s
  have old : ∀ (k : Nat) (d : D), (ρ.set i x)[k]? = some (.dp d) → k ≠ i ∧ ρ[k]? = some (.dp d) := fun k d e => by
    rcases set_get e with ⟨_, z⟩ | z
    · exact (hx d z.symm).elim
    · exact z
  refine ⟨Fp, fun k d e => ?_, fun j k d e z ne e1 e2 => h2 j k d e z ne (old j d e1).2 (old k e e2).2, fun k j d t a e e' ea => ?_, fun p mp d z => by
    obtain ⟨ne, z⟩ := old p.1 d z
    rw [List.getElem?_set_ne (Ne.symm ne)]
    exact h4 p mp d z⟩
  · obtain ⟨ne, e⟩ := old k d e
    obtain ⟨v, q1, q⟩ := h1 k d e
    exact ⟨v, by rw [List.getElem?_set_ne (Ne.symm ne)]; exact q1, q⟩
  · obtain ⟨ne, ek⟩ := old k d e
    rcases set_get e' with ⟨rfl, z⟩ | ⟨nj, z⟩
    · rcases set_get ea with ⟨_, za⟩ | ⟨zn, _⟩
      · obtain ⟨v, q1, q2, _⟩ := h1 k d ek
        exact how t a z.symm za.symm k d v _ ek q1 q2
      · exact (zn rfl).elim
    · rw [List.getElem?_set_ne (Ne.symm nj)] at ea
      exact h3 k j d t a ek z ea
theorem Dps.write {i : Nat} {a : Addr} {t u : T} {o' : HO} (s : Dps C B σ H ρ G) (e : ρ[i]? = some (.ow t)) (ea : σ[i]? = some (some (.ref a))) : Dps C B σ (upd H a o') (ρ.set i (.ow u)) G := by
  obtain ⟨Fp, h1, h2, h3, h4⟩ := s
  have old : ∀ (k : Nat) (d : D), (ρ.set i (.ow u))[k]? = some (.dp d) → ρ[k]? = some (.dp d) := fun k d z => by
    rcases set_get z with ⟨_, z⟩ | ⟨_, z⟩
    · cases z
    · exact z
  refine ⟨Fp, fun k d z => ?_, fun j k d e z ne e1 e2 => h2 j k d e z ne (old j d e1) (old k e e2), fun k j d t' b z z' zb => ?_, fun p mp d z => h4 p mp d (old p.1 d z)⟩
  · obtain ⟨v, q1, q2, q3, q4⟩ := h1 k d (old k d z)
    exact ⟨v, q1, q2.mono (Ex.refl _) _ _ _ (fun x m o zo => by rw [upd_ne (fun q => h3 k i d t a (old k d z) e ea (by rw [← q]; exact m))]; exact zo), q3, q4⟩
  · rcases set_get z' with ⟨rfl, _⟩ | ⟨_, z'⟩
    · exact h3 k j d t b (old k d z) e zb
    · exact h3 k j d t' b (old k d z) z' zb
theorem Dps.beside {b : Addr} {o : HO} (s : Dps C B σ H ρ G) (hd : ∀ (k : Nat) (d : D) (v : V) (F : List Addr), ρ[k]? = some (.dp d) → σ[k]? = some (some v) → Dv C B.w H G d v F → b ∉ F) : Dps C B σ (upd H b o) ρ G := by
  obtain ⟨Fp, h1, h2, h3, h4⟩ := s
  refine ⟨Fp, fun k d z => ?_, h2, h3, h4⟩
  obtain ⟨v, q1, q2, q3, q4⟩ := h1 k d z
  exact ⟨v, q1, q2.mono (Ex.refl _) _ _ _ (fun x m p zo => by rw [upd_ne (fun q => hd k d v _ z q1 q2 (by rw [← q]; exact m))]; exact zo), q3, q4⟩
theorem Dps.frz {i : Nat} {a : Addr} {t : T} {o : HO} (s : Dps C B σ H ρ G) (e : ρ[i]? = some (.ow t)) (ea : σ[i]? = some (some (.ref a))) (hG : G a = none) : Dps C B σ H (ρ.set i (.sh t)) (upd G a o) := by
  obtain ⟨Fp, h1, h2, h3, h4⟩ := s
  have old : ∀ (k : Nat) (d : D), (ρ.set i (.sh t))[k]? = some (.dp d) → ρ[k]? = some (.dp d) := fun k d z => by
    rcases set_get z with ⟨_, z⟩ | ⟨_, z⟩
    · cases z
    · exact z
  refine ⟨Fp, fun k d z => ?_, fun j k d e z ne e1 e2 => h2 j k d e z ne (old j d e1) (old k e e2), fun k j d t' b z z' zb => ?_, fun p mp d z => h4 p mp d (old p.1 d z)⟩
  · obtain ⟨v, q1, q2, q3, q4⟩ := h1 k d (old k d z)
    exact ⟨v, q1, q2.mono (Ex.new hG) _ _ _ (fun x m o zo => zo), q3, fun x m => ⟨(q4 x m).1, by rw [upd_ne (fun q => h3 k i d t a (old k d z) e ea (by rw [← q]; exact m))]; exact (q4 x m).2⟩⟩
  · rcases set_get z' with ⟨_, z'⟩ | ⟨_, z'⟩
    · cases z'
    · exact h3 k j d t' b (old k d z) z' zb
/-- a place that was free when the state was .. is none of the slots' own -/
theorem SR.dpFree {H' G' : Hp} {b : Addr} (s : SR C B σ H ρ G) (g : Gr H G H' G') (hb : H b = none) : ∀ (k : Nat) (d : D) (v : V) (F : List Addr), ρ[k]? = some (.dp d) → σ[k]? = some (some v) → Dv C B.w H' G' d v F → b ∉ F := fun k d v F e ev h m => by
  obtain ⟨Fp, h1, _, _, _⟩ := s.dp
  obtain ⟨v', q1, q2, _⟩ := h1 k d e
  rw [ev] at q1
  cases q1
  have z := q2.det g.eg _ _ _ _ (fun x _ o z => g.eh x o z) h
  rw [← z] at m
  obtain ⟨o, ho⟩ := q2.there _ _ _ b m
  rw [hb] at ho
  cases ho
/-- a slot is stored: what it holds does not lean on the others -/
theorem SR.set {i : Nat} {w : Option V} {x : Sl} (s : SR C B σ H ρ G) (hsh : ∀ t, x = .sh t → ∃ v, w = some v ∧ Is C G t v)
    (how : ∀ t, x = .ow t → ∃ a o, w = some (.ref a) ∧ B.1 a = none ∧ H a = some o ∧ G a = none ∧ IsO C G t o ∧ ∀ (j : Nat) (u : T), ρ[j]? = some (.ow u) → σ[j]? ≠ some (some (.ref a)))
    (hxn : ∀ y p, x = .xn y p → ∃ a cls d, B.3 = some (a, cls, d) ∧ w = some (.ref a) ∧ XAt C y p cls d G) (hdp : ∀ d, x ≠ .dp d)
    (hod : ∀ t a, x = .ow t → w = some (.ref a) → ∀ (k : Nat) (d : D) (v : V) (F : List Addr), ρ[k]? = some (.dp d) → σ[k]? = some (some v) → Dv C B.w H G d v F → a ∉ F) : SR C B (σ.set i w) H (ρ.set i x) G where
  dp := s.dp.set hdp hod
  gr := s.gr
  sh := fun j t e => by
    rcases set_get e with ⟨rfl, e'⟩ | ⟨ne, e'⟩
    · obtain ⟨v, rfl, h⟩ := hsh t e'.symm
      have hl : j < ρ.length := by
        have := (List.getElem?_eq_some_iff.mp e).1
        simpa using this
      exact ⟨v, List.getElem?_set_self (by rw [← s.len]; exact hl), h⟩
    · obtain ⟨v, h1, h2⟩ := s.sh j t e'
      exact ⟨v, by rw [List.getElem?_set_ne (Ne.symm ne)]; exact h1, h2⟩
  ow := fun j t e => by
    rcases set_get e with ⟨rfl, e'⟩ | ⟨ne, e'⟩
    · obtain ⟨a, o, rfl, h1, h2, h3, h4, _⟩ := how t e'.symm
      have hl : j < ρ.length := by
        have := (List.getElem?_eq_some_iff.mp e).1
        simpa using this
      exact ⟨a, o, List.getElem?_set_self (by rw [← s.len]; exact hl), h1, h2, h3, h4⟩
    · obtain ⟨a, o, h1, h2⟩ := s.ow j t e'
      exact ⟨a, o, by rw [List.getElem?_set_ne (Ne.symm ne)]; exact h1, h2⟩
  ds := fun j k t u a hjk e1 e2 e3 e4 => by
    rcases set_get e1 with ⟨rfl, e1'⟩ | ⟨n1, e1'⟩
    · obtain ⟨a', o, rfl, _, _, _, _, h5⟩ := how t e1'.symm
      rcases set_get e3 with ⟨_, e3'⟩ | ⟨z, _⟩
      · have ea : V.ref a = .ref a' := Option.some.inj e3'
        cases ea
        rcases set_get e2 with ⟨rfl, _⟩ | ⟨n2, e2'⟩
        · exact hjk rfl
        · rw [List.getElem?_set_ne (Ne.symm n2)] at e4
          exact h5 k u e2' e4
      · exact z rfl
    · rw [List.getElem?_set_ne (Ne.symm n1)] at e3
      rcases set_get e2 with ⟨rfl, e2'⟩ | ⟨n2, e2'⟩
      · obtain ⟨a', o, rfl, _, _, _, _, h5⟩ := how u e2'.symm
        rcases set_get e4 with ⟨_, e4'⟩ | ⟨z, _⟩
        · have ea : V.ref a = .ref a' := Option.some.inj e4'
          cases ea
          exact h5 j t e1' e3
        · exact z rfl
      · rw [List.getElem?_set_ne (Ne.symm n2)] at e4
        exact s.ds j k t u a hjk e1' e2' e3 e4
  len := by rw [List.length_set, List.length_set]; exact s.len
  xn := fun j y p e => by
    rcases set_get e with ⟨rfl, e'⟩ | ⟨ne, e'⟩
    · obtain ⟨a, cls, d, h1, rfl, h3⟩ := hxn y p e'.symm
      have hl : j < ρ.length := by
        have := (List.getElem?_eq_some_iff.mp e).1
        simpa using this
      exact ⟨a, cls, d, h1, List.getElem?_set_self (by rw [← s.len]; exact hl), h3⟩
    · obtain ⟨a, cls, d, h1, h2, h3⟩ := s.xn j y p e'
      exact ⟨a, cls, d, h1, by rw [List.getElem?_set_ne (Ne.symm ne)]; exact h2, h3⟩
theorem SR.setSh {i : Nat} {v : V} {t : T} (s : SR C B σ H ρ G) (h : Is C G t v) : SR C B (σ.set i (some v)) H (ρ.set i (.sh t)) G :=
  s.set (fun u e => by cases e; exact ⟨v, rfl, h⟩) (fun u e => by cases e) (fun y p e => by cases e) (fun d e => by cases e) (fun t a e => by cases e)
theorem SR.setUn {i : Nat} (s : SR C B σ H ρ G) : SR C B (σ.set i none) H (ρ.set i .un) G :=
  s.set (fun u e => by cases e) (fun u e => by cases e) (fun y p e => by cases e) (fun d e => by cases e) (fun t a e => by cases e)
/-- one's own object is written -/
theorem SR.write {i : Nat} {a : Addr} {t u : T} {o o' : HO} (s : SR C B σ H ρ G) (e : ρ[i]? = some (.ow t)) (ea : σ[i]? = some (some (.ref a))) (hB : B.1 a = none) (hG : G a = none) (h : IsO C G u o') : SR C B σ (upd H a o') (ρ.set i (.ow u)) G := by
  have hl : i < ρ.length := (List.getElem?_eq_some_iff.mp e).1
  refine ⟨⟨Ex.mut s.gr.eh hB, s.gr.eg, Ex.mut s.gr.gh hG, s.gr.sep⟩, fun j t' e' => ?_, fun j t' e' => ?_, fun j k t' u' b hjk e1 e2 e3 e4 => ?_, by rw [List.length_set]; exact s.len, fun j y p e' => ?_, s.dp.write e ea⟩
  rotate_left 3
  · rcases set_get e' with ⟨_, z⟩ | ⟨_, z⟩
    · cases z
    · exact s.xn j y p z
  · rcases set_get e' with ⟨_, z⟩ | ⟨_, z⟩
    · cases z
    · exact s.sh j t' z
  · rcases set_get e' with ⟨rfl, z⟩ | ⟨ne, z⟩
    · cases z
      exact ⟨a, o', ea, hB, upd_same, hG, h⟩
    · obtain ⟨b, ob, h1, h2, h3, h4, h5⟩ := s.ow j t' z
      have hb : b ≠ a := fun q => by
        subst q
        exact s.ds i j t t' b (Ne.symm ne) e z ea h1
      exact ⟨b, ob, h1, h2, by rw [upd_ne hb]; exact h3, h4, h5⟩
  · have k1 : ∃ t1, ρ[j]? = some (.ow t1) := by
      rcases set_get e1 with ⟨rfl, _⟩ | ⟨_, z⟩
      · exact ⟨t, e⟩
      · exact ⟨t', z⟩
    have k2 : ∃ t1, ρ[k]? = some (.ow t1) := by
      rcases set_get e2 with ⟨rfl, _⟩ | ⟨_, z⟩
      · exact ⟨t, e⟩
      · exact ⟨u', z⟩
    obtain ⟨t1, k1⟩ := k1
    obtain ⟨t2, k2⟩ := k2
    exact s.ds j k t1 t2 b hjk k1 k2 e3 e4
/-- an object beside is written -/
theorem SR.beside {d : Addr} {o : HO} (s : SR C B σ H ρ G) (hB : B.1 d = none) (hG : G d = none) (hd : ∀ (i : Nat) (t : T), ρ[i]? = some (.ow t) → σ[i]? ≠ some (some (.ref d))) (hdp : ∀ (k : Nat) (e : D) (v : V) (F : List Addr), ρ[k]? = some (.dp e) → σ[k]? = some (some v) → Dv C B.w H G e v F → d ∉ F) : SR C B σ (upd H d o) ρ G := by
  refine ⟨⟨Ex.mut s.gr.eh hB, s.gr.eg, Ex.mut s.gr.gh hG, s.gr.sep⟩, s.sh, fun j t e => ?_, s.ds, s.len, s.xn, s.dp.beside hdp⟩
  obtain ⟨b, ob, h1, h2, h3, h4, h5⟩ := s.ow j t e
  have hb : b ≠ d := fun q => by
    subst q
    exact hd j t e h1
  exact ⟨b, ob, h1, h2, by rw [upd_ne hb]; exact h3, h4, h5⟩
/-- one's own object becomes shared -/
def frz (i : Nat) (ρ : Ev') : Ev' := match ρ[i]? with | some (.ow t) => ρ.set i (.sh t) | _ => ρ
theorem SR.frz (i : Nat) (s : SR C B σ H ρ G) : ∃ G', SR C B σ H (frz i ρ) G' ∧ Ex G G' := by
  unfold VS.frz
  split
  · rename_i t e
    obtain ⟨a, o, h1, h2, h3, h4, h5⟩ := s.ow i t e
    have g : Gr B.1 B.2 H (upd G a o) := s.gr.frz h2 h3 h4
    have eg : Ex G (upd G a o) := Ex.new h4
    have hl : i < ρ.length := (List.getElem?_eq_some_iff.mp e).1
    refine ⟨_, ⟨g, fun j t' e' => ?_, fun j t' e' => ?_, fun j k t' u' b hjk e1 e2 e3 e4 => ?_, by rw [List.length_set]; exact s.len, fun j y p e' => ?_, s.dp.frz e h1 h4⟩, eg⟩
    rotate_left 3
    · rcases set_get e' with ⟨_, z⟩ | ⟨_, z⟩
      · cases z
      · obtain ⟨b, cls, d, q1, q2, q3⟩ := s.xn j y p z
        exact ⟨b, cls, d, q1, q2, q3.mono eg⟩
    · rcases set_get e' with ⟨rfl, z⟩ | ⟨_, z⟩
      · cases z
        exact ⟨_, h1, (h5.mono eg).is upd_same⟩
      · obtain ⟨v, q1, q2⟩ := s.sh j t' z
        exact ⟨v, q1, Is.mono eg _ _ q2⟩
    · rcases set_get e' with ⟨rfl, z⟩ | ⟨ne, z⟩
      · cases z
      · obtain ⟨b, ob, q1, q2, q3, q4, q5⟩ := s.ow j t' z
        have hb : b ≠ a := fun q => by
          subst q
          exact s.ds i j t t' b (Ne.symm ne) e z h1 q1
        exact ⟨b, ob, q1, q2, q3, by rw [upd_ne hb]; exact q4, q5.mono eg⟩
    · rcases set_get e1 with ⟨_, z⟩ | ⟨_, z1⟩
      · cases z
      · rcases set_get e2 with ⟨_, z⟩ | ⟨_, z2⟩
        · cases z
        · exact s.ds j k t' u' b hjk z1 z2 e3 e4
  · exact ⟨G, s, Ex.refl _⟩
end

def sNx : FS := fun ρ => .nx ρ
def sSeq (f g : FS) : FS := fun ρ => match f ρ with
  | .nx ρ' => g ρ'
  | .rt t => .rt t
  | .bk r => .bk r
  | .ct r => .ct r
  | .ex x p r => .ex x p r
  | .bad => .bad
def sLift (ρ : Ev') (r : Res T) (k : T → Out) : Out := match r with
  | .ok t => k t
  | .ex x p => .ex x p ρ
  | .bad => .bad
def sFrz (i : Nat) (f : FS) : FS := fun ρ => f (frz i ρ)
def sSet (i : Nat) (fa : FE) : FS := fun ρ => sLift ρ (fa ρ) fun t => .nx (ρ.set i (.sh t))
def sNew (i : Nat) (fa : FE) : FS := fun ρ => sLift ρ (fa ρ) fun t => .nx (ρ.set i (.ow t))
def sRet (fa : FE) : FS := fun ρ => sLift ρ (fa ρ) fun t => .rt t
def sExp (fa : FE) : FS := fun ρ => sLift ρ (fa ρ) fun _ => .nx ρ
def sIf (fc : FE) (f g : FS) : FS := fun ρ => sLift ρ (fc ρ) fun t => match t with | .bl true => f ρ | .bl false => g ρ | _ => .bad
section
variable {C : KM} {B : BS} {m : Md} {W : WX} {σ : L2.St} {H G : Hp} {ρ : Ev'} {D : Ends}
/-- a statement's expression, then what follows -/
theorem bindSt {fa : FE} {k : T → Out} {Q1 : VK} (h : SR C B σ H ρ G) (p : PostS C B W D G (sLift ρ (fa ρ) k)) (c : ∀ t v H1 G1, Gr H G H1 G1 → SR C B σ H1 ρ G1 → m.Is C t v H H1 G1 → PostS C B W D G1 (k t) → Q1 v H1) : tM C B m W fa σ H Q1 := by
  refine ⟨ρ, G, h, ?_⟩
  cases e : fa ρ with
  | ok t =>
    rw [e] at p
    exact fun v H' G' g i => c t v H' G' g (h.ext g) i (PostS.mono g.eg p)
  | ex x p' =>
    rw [e] at p
    exact fun cls d H' G' g i => p cls d σ H' G' (h.ext g) g.eg i
  | bad =>
    rw [e] at p
    exact p.elim
theorem bindStT {fa : FE} {k : T → Out} {Q1 : Bool → Hp → Prop} (h : SR C B σ H ρ G) (p : PostS C B W D G (sLift ρ (fa ρ) k)) (hk : ∀ t, (∀ b, t ≠ .bl b) → k t = .bad) (c : ∀ b H1 G1, Gr H G H1 G1 → SR C B σ H1 ρ G1 → PostS C B W D G1 (k (.bl b)) → Q1 b H1) : tMT C B W fa σ H Q1 := by
  refine ⟨ρ, G, h, ?_⟩
  cases e : fa ρ with
  | ok t =>
    rw [e] at p
    cases t with
    | bl b => exact fun H' G' g => c b H' G' g (h.ext g) (PostS.mono g.eg p)
    | _ =>
      have p' : PostS C B W D G (k _) := p
      rw [hk _ (fun b z => by cases z)] at p'
      exact p'.elim
  | ex x p' =>
    rw [e] at p
    exact fun cls d H' G' g i => p cls d σ H' G' (h.ext g) g.eg i
  | bad =>
    rw [e] at p
    exact p.elim
end
section
variable {X : Cx} {B : BS} {W : WX} {m : Md} {a b c e : Expr} {fa fb fc : FE} {f g : FS} {pos pos' : Pos} {st : Stmt} {rest body body' : List Stmt}
theorem ss_nil : DSs X B W [] sNx := PSs.imp pss_nil fun D σ H ⟨ρ, G, s, p⟩ => p σ H G s (Ex.refl _)
theorem ss_cons (h1 : DS X B W st f) (h2 : DSs X B W rest g) : DSs X B W (st :: rest) (sSeq f g) := PSs.imp (pss_cons h1 h2) fun D σ H ⟨ρ, G, s, p⟩ => by
  refine ⟨ρ, G, s, ?_⟩
  unfold sSeq at p
  cases e : f ρ with
  | nx ρ' =>
    rw [e] at p
    exact fun σ' H' G' s' k => ⟨ρ', G', s', PostS.mono k p⟩
  | _ =>
    rw [e] at p
    exact p
theorem ss_one (h1 : DS X B W st f) : DSs X B W [st] f := pss_one h1
theorem ss_frz (i : Nat) (h : DSs X B W body f) : DSs X B W body (sFrz i f) := PSs.imp h fun D σ H ⟨ρ, G, s, p⟩ => by
  obtain ⟨G', s', e⟩ := s.frz i
  exact ⟨_, G', s', PostS.mono e p⟩
theorem st_frz (i : Nat) (h : DS X B W st f) : DS X B W st (sFrz i f) := PS.imp h fun D σ H ⟨ρ, G, s, p⟩ => by
  obtain ⟨G', s', e⟩ := s.frz i
  exact ⟨_, G', s', PostS.mono e p⟩
theorem st_pass : DS X B W (.Pass pos) sNx := PS.imp ps_pass fun D σ H ⟨ρ, G, s, p⟩ => p σ H G s (Ex.refl _)
def sBk : FS := fun ρ => .bk ρ
def sCt : FS := fun ρ => .ct ρ
theorem st_break : DS X B W (.Break pos) sBk := PS.imp ps_break fun D σ H ⟨ρ, G, s, p⟩ => p σ H G s (Ex.refl _)
theorem st_cont : DS X B W (.Continue pos) sCt := PS.imp ps_continue fun D σ H ⟨ρ, G, s, p⟩ => p σ H G s (Ex.refl _)
theorem st_doc {x : Str} {j : Nat} : DS X B W (.Expr (.Constant (.str x) j pos) pos') sNx := PS.imp ps_doc fun D σ H ⟨ρ, G, s, p⟩ => p σ H G s (Ex.refl _)
/-- name = e -/
theorem st_set {i : Nat} {x : Str} (hN : X.N.Nodup) (hi : X.N[i]? = some x) (hx : Loc X.env.scope x) (he : DE X B W .E e fa) (hs : swapsWith e (some (.Name x pos')) pos.line X.env = pure false := by rfl) (hf : X.fn x = true ∨ X.env.scope.names.lookup x = some .local := by first | exact .inl rfl | exact .inr rfl | assumption) :
    DS X B W (.Assign [.Name x pos'] e pos) (sSet i fa) := PS.imp (ps_set hN hi hx he hs hf) fun D σ H ⟨ρ, G, s, p⟩ => bindSt s p fun t v H1 G1 g s1 i p1 => p1 _ H1 G1 (s1.setSh i) (Ex.refl _)
/-- name = a new object, one's own -/
theorem st_new {i : Nat} {x : Str} (hN : X.N.Nodup) (hi : X.N[i]? = some x) (hx : Loc X.env.scope x) (he : DE X B W .N e fa) (hs : swapsWith e (some (.Name x pos')) pos.line X.env = pure false := by rfl) (hf : X.fn x = true ∨ X.env.scope.names.lookup x = some .local := by first | exact .inl rfl | exact .inr rfl | assumption) :
    DS X B W (.Assign [.Name x pos'] e pos) (sNew i fa) := PS.imp (ps_set hN hi hx he hs hf) fun D σ H ⟨ρ, G, s, p⟩ => bindSt s p fun t v H1 G1 g s1 i p1 => by
  obtain ⟨a, o, rfl, h1, h2, h3, h4⟩ := i
  refine p1 _ H1 G1 (s1.set (fun u e => by cases e) (fun u e => ?_) (fun y p e => by cases e) (fun d e => by cases e) (fun t b _ eb => by cases eb; exact s.dpFree g h1)) (Ex.refl _)
  cases e
  refine ⟨a, o, rfl, fresh_back s.gr.eh h1, h2, h3, h4, fun j w ej ea => ?_⟩
  obtain ⟨b, ob, q1, _, q3, _⟩ := s.ow j w ej
  rw [q1] at ea
  cases ea
  rw [h1] at q3
  cases q3
theorem st_ret (he : DE X B W .E e fa) (hm : B.rm = .E := by rfl) : DS X B W (.Return (some e) pos) (sRet fa) := PS.imp (ps_ret he) fun D σ H ⟨ρ, G, s, p⟩ => bindSt s p fun t v H1 G1 g s1 i p1 => p1 v H1 G1 s1.gr (by rw [hm]; exact i)
/-- a new object is returned -/
theorem st_retNew (he : DE X B W .N e fa) (hm : B.rm = .N := by rfl) : DS X B W (.Return (some e) pos) (sRet fa) := PS.imp (ps_ret he) fun D σ H ⟨ρ, G, s, p⟩ => bindSt s p fun t v H1 G1 g s1 i p1 => p1 v H1 G1 s1.gr (by
  rw [hm]
  obtain ⟨a, o, h1, h2, h3⟩ := i
  exact ⟨a, o, h1, fresh_back s.gr.eh h2, h3⟩)
/-- one's own object is returned -/
def sRetO (i : Nat) : FS := fun ρ => match ρ[i]? with | some (.ow t) => .rt t | _ => .bad
theorem st_retO (i : Nat) {x : Str} {p2 : Pos} (hN : X.N[i]? = some x := by rfl) (hv : Vis X.env.scope x := by first | exact Or.inl rfl | exact Or.inr (Or.inl rfl) | exact Or.inr (Or.inr rfl)) (hd : (x == ("__debug__" : Str)) = false := by decide)
    (hcd : (x == ("__classdict__" : Str)) = false := by decide) (hm : B.rm = .N := by rfl) : DS X B W (.Return (some (.Name x p2)) pos) (sRetO i) := PS.imp (ps_ret (pe_var hN hv hd hcd)) fun D σ H ⟨ρ, G, s, p⟩ => by
  unfold sRetO at p
  split at p
  · rename_i t e
    obtain ⟨a, o, h1, h2, h3, h4, h5⟩ := s.ow i t e
    refine ⟨.ref a, h1, p _ H G s.gr ?_⟩
    rw [hm]
    exact ⟨a, o, rfl, h2, h3, h4, h5⟩
  · exact p.elim
theorem st_retN (hm : B.rm = .E := by rfl) : DS X B W (.Return none pos) (sRet (eC .non)) := PS.imp ps_retN fun D σ H ⟨ρ, G, s, p⟩ => p .non H G s.gr (by rw [hm]; exact (Is.nonI : VS.Is (km X) G .non .non))
theorem st_expr (he : DE X B W .S e fa) (hs : swapsWith e none pos.line X.env = pure false := by rfl) : DS X B W (.Expr e pos) (sExp fa) := PS.imp (ps_expr he hs) fun D σ H ⟨ρ, G, s, p⟩ => bindSt s p fun t v H1 G1 g s1 i p1 => p1 σ H1 G1 s1 (Ex.refl _)
theorem st_if (hc : DT X B W c fc) (ha : DSs X B W body f) (hb : DSs X B W body' g) : DS X B W (.If c body body' pos) (sIf fc f g) := PS.imp (ps_if hc ha hb) fun D σ H ⟨ρ, G, s, p⟩ => bindStT s p (fun t ht => by cases t with | bl b => exact absurd rfl (ht b) | _ => rfl) fun b H1 G1 g s1 p1 => by
  cases b with
  | true => exact iteT ⟨ρ, G1, s1, p1⟩
  | false => exact iteF ⟨ρ, G1, s1, p1⟩
/-- xs.append(e), xs one's own -/
def sApp (i : Nat) (fa : FE) : FS := fun ρ => match ρ[i]? with
  | some (.ow (.lst l)) => sLift ρ (fa ρ) fun t => if l.length < 100000 then .nx (ρ.set i (.ow (.lst (l ++ [t])))) else .bad
  | _ => .bad
theorem st_app (i : Nat) {x : Str} {p1 p2 p3 : Pos} (hN : X.N[i]? = some x) (hv : Vis X.env.scope x) (ha : DE X B W .E a fa)
    (h : PE X (.Call (.Attribute (.Name x p1) "append" p2) [a] [] p3) (tBM X.K "list" rAppend (tVar i) (tCons (tM (km X) B .E W fa) tNil)))
    (hs : swapsWith (.Call (.Attribute (.Name x p1) "append" p2) [a] [] p3) none pos.line X.env = pure false := by rfl) : DS X B W (.Expr (.Call (.Attribute (.Name x p1) "append" p2) [a] [] p3) pos) (sApp i fa) :=
  PS.imp (ps_expr h hs) fun D σ H ⟨ρ, G, s, p⟩ => by
    unfold sApp at p
    split at p
    · rename_i l e
      obtain ⟨ad, o, h1, h2, h3, h4, vs, rfl, h5⟩ := s.ow i _ e
      refine ⟨.ref ad, h1, .inl ⟨rfl, vs, SqL.of h3⟩, bindSt s p fun t v H1 G1 g s1 iv p1 => ?_⟩
      split at p1
      · rename_i hl
        obtain ⟨ad', o', k1, k2, k3, k4, vs', rfl, k5⟩ := s1.ow i _ e
        rw [h1] at k1
        cases k1
        refine ⟨ad, vs', v, rfl, rfl, k3, sz_lt (by rw [← k5.length]; exact hl), p1 σ _ G1 (s1.write (o := .lst vs') e h1 k2 k4 ⟨_, rfl, k5.app (IsL.one iv)⟩) (Ex.refl _)⟩
      · exact p1.elim
    · exact p.elim
/-- xs[i] = e, xs one's own -/
def sPut (i : Nat) (fi fa : FE) : FS := fun ρ => sLift ρ (fa ρ) fun t => match ρ[i]? with
  | some (.ow (.lst l)) => sLift ρ (fi ρ) fun k => match k with
    | .int k => match ixN l.length k with
      | some j => .nx (ρ.set i (.ow (.lst (l.set j t))))
      | none => .bad
    | _ => .bad
  | _ => .bad
theorem st_put (i : Nat) {x : Str} {p1 p2 : Pos} (hN : X.N[i]? = some x) (hv : Vis X.env.scope x) (hd : (x == ("__debug__" : Str)) = false) (hcd : (x == ("__classdict__" : Str)) = false) (ha : DE X B W .E a fa) (hb : DE X B W .E b fb)
    (h : PG X (.Subscript (.Name x p1) b p2) (gSub (tVar i) (tM (km X) B .E W fb) rSetL))
    (hs : swapsWithSole [.Subscript (.Name x p1) b p2] a pos.line X.env = pure false := by rfl) (hw : swappedStores [.Subscript (.Name x p1) b p2] a X.env = pure none := by rfl)
    (h1 : (assignEach [.Subscript (.Name x p1) b p2] X.env).map (·.2) = [assign (.Subscript (.Name x p1) b p2) X.env] := by rfl) : DS X B W (.Assign [.Subscript (.Name x p1) b p2] a pos) (sPut i fb fa) :=
  PS.imp (ps_asg ha h hs hw h1) fun D σ H ⟨ρ, G, s, p⟩ => bindSt s p fun t v H1 G1 g s1 iv p1 => by
    split at p1
    · rename_i l e
      obtain ⟨ad, o, h1, h2, h3, h4, vs, rfl, h5⟩ := s1.ow i _ e
      refine ⟨.ref ad, h1, bindSt s1 p1 fun k w H2 G2 g2 s2 ik p2 => ?_⟩
      cases k with
      | int k =>
        cases q : ixN l.length k with
        | some j =>
          have p3 : PostS (km X) B W D G2 (match ixN l.length k with | some j => Out.nx (ρ.set i (.ow (.lst (l.set j t)))) | none => .bad) := p2
          rw [q] at p3
          obtain ⟨ad', o', k1, k2, k3, k4, vs', rfl, k5⟩ := s2.ow i _ e
          rw [h1] at k1
          cases k1
          refine ⟨ad, vs', k, j, rfl, Md.int1 ik, k3, by rw [← k5.length]; exact q, p3 σ _ G2 (s2.write (o := .lst vs') e h1 k2 k4 ⟨_, rfl, k5.set (Is.mono g2.eg _ _ iv) j⟩) (Ex.refl _)⟩
        | none =>
          have p3 : PostS (km X) B W D G2 (match ixN l.length k with | some j => Out.nx (ρ.set i (.ow (.lst (l.set j t)))) | none => .bad) := p2
          rw [q] at p3
          exact p3.elim
      | _ => exact p2.elim
    · exact p1.elim
/-- x += e, x -= e of ints -/
def sAug (i : Nat) (w : Int → Int → Int) (fa : FE) : FS := fun ρ => match ρ[i]? with
  | some (.sh (.int k)) => sLift ρ (fa ρ) fun t => match t with | .int j => .nx (ρ.set i (.sh (.int (w k j)))) | _ => .bad
  | _ => .bad
theorem st_aug {i : Nat} {x : Str} {op : Operator} {w : Int → Int → Int} (hN : X.N.Nodup) (hi : X.N[i]? = some x) (hx : Loc X.env.scope x) (he : DE X B W .E e fa) (ho : PIp X op (ipI w)) (hf : X.fn x = true ∨ X.env.scope.names.lookup x = some .local := by first | exact .inl rfl | exact .inr rfl | assumption) :
    DS X B W (.AugAssign (.Name x pos') op e pos) (sAug i w fa) := PS.imp (ps_aug hN hi hx he ho hf) fun D σ H ⟨ρ, G, s, p⟩ => by
  unfold sAug at p
  split at p
  · rename_i k e
    obtain ⟨v, h1, h2⟩ := s.sh i _ e
    refine ⟨v, h1, bindSt s p fun t u H1 G1 g s1 iv p1 => ?_⟩
    cases t with
    | int j => exact ⟨k, j, Is.int1 h2, Md.int1 iv, p1 _ H1 G1 (s1.setSh Is.intI) (Ex.refl _)⟩
    | _ => exact p1.elim
  · exact p.elim
end
end VS

namespace VS
open PySem PySem.Spec PyProof.Rows L2 Evl

/-! ### targets -/
inductive Tg where
  | nm (i : Nat) | tp (is : List Nat)
def gNames : List Nat → TGs
  | [] => gNil
  | i :: is => gCons (gName i) (gNames is)
def tG (K : PySem.W.Frag) : Tg → TG
  | .nm i => gName i
  | .tp is => gTup K is.length (gNames is)
def DG (X : Cx) (e : Expr) (t : Tg) : Prop := PG X e (tG X.K t)
def setAll : Ev' → List Nat → List T → Ev'
  | ρ, i :: is, t :: ts => setAll (ρ.set i (.sh t)) is ts
  | ρ, _, _ => ρ
def setT (g : Tg) (t : T) (ρ : Ev') : Option Ev' :=
  match g with
  | .nm i => some (ρ.set i (.sh t))
  | .tp is => match t with
    | .tup l => if l.length = is.length then some (setAll ρ is l) else none
    | _ => none
section
variable {C : KM} {B : BS} {σ : L2.St} {H G : Hp} {ρ : Ev'}
theorem names_of {Q : L2.St → Hp → Prop} : ∀ {is : List Nat} {ts : List T} {vs : List V} {σ : L2.St} {ρ : Ev'}, SR C B σ H ρ G → IsL C G ts vs → ts.length = is.length → (∀ σ', SR C B σ' H (setAll ρ is ts) G → Q σ' H) → gNames is vs σ H Q
  | [], [], _, σ, ρ, s, h, _, q => by
    unfold IsL at h
    subst h
    exact ⟨rfl, q σ s⟩
  | [], _ :: _, _, _, _, _, _, e, _ => by cases e
  | _ :: _, [], _, _, _, _, _, e, _ => by cases e
  | i :: is, t :: ts, _, σ, ρ, s, h, e, q => by
    unfold IsL at h
    obtain ⟨v, r, rfl, h2, h3⟩ := h
    exact ⟨v, r, rfl, names_of (s.setSh h2) h3 (Nat.succ.inj e) q⟩
theorem tg_of {g : Tg} {t : T} {v : V} {ρ' : Ev'} {Q : L2.St → Hp → Prop} (s : SR C B σ H ρ G) (h : Is C G t v) (e : setT g t ρ = some ρ') (q : ∀ σ', SR C B σ' H ρ' G → Q σ' H) : tG C.K g v σ H Q := by
  cases g with
  | nm i =>
    obtain rfl := Option.some.inj e
    exact q _ (s.setSh h)
  | tp is =>
    cases t with
    | tup l =>
      have e' : (if l.length = is.length then some (setAll ρ is l) else none) = some ρ' := e
      split at e'
      · rename_i hl
        obtain rfl := Option.some.inj e'
        unfold Is at h
        obtain ⟨a, vs, rfl, h1, h2⟩ := h
        exact ⟨a, vs, rfl, ex_t s.exGH h1, by rw [← h2.length]; exact hl, names_of s h2 hl q⟩
      · cases e'
    | _ => cases e
end
def sAsg (g : Tg) (fa : FE) : FS := fun ρ => sLift ρ (fa ρ) fun t => match setT g t ρ with | some ρ' => .nx ρ' | none => .bad
theorem st_asg {X : Cx} {B : BS} {W : WX} {tg e : Expr} {fa : FE} {g : Tg} {pos : Pos} (he : DE X B W .E e fa) (hg : DG X tg g) (hs : swapsWithSole [tg] e pos.line X.env = pure false := by rfl) (hw : swappedStores [tg] e X.env = pure none := by rfl)
    (h1 : (assignEach [tg] X.env).map (·.2) = [assign tg X.env] := by rfl) : DS X B W (.Assign [tg] e pos) (sAsg g fa) := PS.imp (ps_asg he hg hs hw h1) fun D σ H ⟨ρ, G, s, p⟩ => bindSt s p fun t v H1 G1 g1 s1 i p1 => by
  cases q : setT g t ρ with
  | some ρ' =>
    rw [q] at p1
    exact tg_of (C := km X) s1 i q fun σ' s' => p1 σ' H1 G1 s' (Ex.refl _)
  | none =>
    rw [q] at p1
    exact p1.elim
/-! ### what is walked -/
structure Wk (C : KM) (J : It) (G0 : Hp) (l : List T) : Prop where
  go : ∀ i H, Ex G0 H → i < l.length → J.go i H
  stop : ∀ H, Ex G0 H → J.stop l.length H
  yld : ∀ i H G x H' t, Ex G0 G → Ex G H → l[i]? = some t → J.yld i H x H' → ∃ G', Gr H G H' G' ∧ Is C G' t x
abbrev FI := Ev' → Res (List T)
def PostI (C : KM) (W : WX) (σ : L2.St) (H G : Hp) (r : Res (List T)) (R : It → Hp → Prop) : Prop :=
  match r with
  | .ok l => ∀ J H' G', Gr H G H' G' → Wk C J G' l → R J H'
  | .ex x p => ∀ cls d H' G', Gr H G H' G' → XAt C x p cls d G' → W cls d σ H'
  | .bad => False
def tI (C : KM) (B : BS) (W : WX) (f : FI) : TI := fun σ H R => ∃ ρ G, SR C B σ H ρ G ∧ PostI C W σ H G (f ρ) R
def DI (X : Cx) (B : BS) (W : WX) (tg e : Expr) (f : FI) : Prop := PI X tg e (tI (km X) B W f)
theorem PI.imp {X : Cx} {tg e : Expr} {t t' : TI} (h : PI X tg e t) (i : ∀ σ H Q, t' σ H Q → t σ H Q) : PI X tg e t' := ⟨fun pins s σ H Q I q => h.run pins s σ H Q I (i σ H Q q)⟩
section
variable {C : KM} {G : Hp}
theorem wk_range (n : Int) : Wk C (Itr 0 n.toNat) G ((List.range n.toNat).map fun i => .int (i : Nat)) where
  go := fun i H _ h => by simpa [Itr] using h
  stop := fun H _ => by
    show n.toNat ≤ _
    rw [List.length_map, List.length_range]
    exact Nat.le_refl _
  yld := fun i H G x H' t _ e ht y => by
    obtain ⟨rfl, rfl⟩ := y
    refine ⟨G, Gr.refl e, ?_⟩
    rw [List.getElem?_map] at ht
    cases q : (List.range n.toNat)[i]? with
    | none => rw [q] at ht; cases ht
    | some j =>
      rw [q] at ht
      obtain rfl := Option.some.inj ht
      have hj : j = i := by
        obtain ⟨h1, h2⟩ := List.getElem?_eq_some_iff.mp q
        simpa using h2.symm
      subst hj
      show Is C G (.int (j : Nat)) (.int (0 + (j : Nat)))
      rw [Int.zero_add]
      exact Is.intI
theorem wk_list {K : PySem.W.Frag} {mg : Str → Option Value} {a : Addr} {l : List T} {vs : List V} (h : G a = some (.lst vs)) (k : IsL ⟨K, mg⟩ G l vs) : Wk ⟨K, mg⟩ (Itl K a) G l where
  go := fun i H e hi => by
    obtain ⟨v, hv⟩ : ∃ v, vs[i]? = some v := ⟨_, List.getElem?_eq_getElem (by rw [← k.length]; exact hi)⟩
    exact ⟨vs, v, SqL.of (e _ _ h), hv⟩
  stop := fun H e => ⟨vs, SqL.of (e _ _ h), by rw [k.length]; exact Nat.le_refl _⟩
  yld := fun i H G1 x H' t e1 e ht y => by
    obtain ⟨rfl, q⟩ := y
    obtain ⟨v, hv, iv⟩ := k.get ht
    have z := (q vs (SqL.of (e _ _ (e1 _ _ h)))).symm.trans hv
    obtain rfl := Option.some.inj z
    exact ⟨G1, Gr.refl e, Is.mono e1 _ _ iv⟩
theorem wk_tup {K : PySem.W.Frag} {mg : Str → Option Value} {a : Addr} {l : List T} {vs : List V} (h : SqT K G a vs) (k : IsL ⟨K, mg⟩ G l vs) : Wk ⟨K, mg⟩ (Itt K a) G l where
  go := fun i H e hi => by
    obtain ⟨v, hv⟩ : ∃ v, vs[i]? = some v := ⟨_, List.getElem?_eq_getElem (by rw [← k.length]; exact hi)⟩
    exact ⟨vs, v, ex_t e h, hv⟩
  stop := fun H e => ⟨vs, ex_t e h, by rw [k.length]; exact Nat.le_refl _⟩
  yld := fun i H G1 x H' t e1 e ht y => by
    obtain ⟨rfl, q⟩ := y
    obtain ⟨v, hv, iv⟩ := k.get ht
    have z := (q vs (ex_t e (ex_t e1 h))).symm.trans hv
    obtain rfl := Option.some.inj z
    exact ⟨G1, Gr.refl e, Is.mono e1 _ _ iv⟩
end
section
variable {X : Cx} {tg : Expr}
/-- over a list or a tuple, by what it is -/
def iSeq (K : PySem.W.Frag) (tl : TE) : TI := fun σ H R => tl σ H fun x H1 => ∃ a, x = .ref a ∧ (((∃ xs, SqL K H1 a xs) ∧ R (Itl K a) H1) ∨ ((∃ xs, SqT K H1 a xs) ∧ R (Itt K a) H1))
theorem pi_seq {l : Expr} {tl : TE} (hl : PE X l tl) : PI X tg l (iSeq X.K tl) := by
  refine ⟨fun pins s σ H R I h => ?_⟩
  refine thn (hl.run pins s σ H _ I h) fun v s1 ⟨x, H1, I1, r1, q1⟩ => ?_
  obtain ⟨a, e, ⟨⟨xs, hq⟩, q⟩ | ⟨⟨xs, hq⟩, q⟩⟩ := q1
  · subst e
    cases r1
    obtain ⟨its, rv, p, hz⟩ := I1.list hq
    refine wpAny_pyIter_list p.isList ?_
    refine ⟨s1.heap.objs.size, [s1.heap.objs.size], _, _, H1, rfl, I1.kept (t' := s1.toks) fun b o e => Heap.get?_push_of_some _ e, turn_list a _, ⟨_, Heap.get?_push_size _ rfl, rfl, rfl⟩, fun b hb => ?_, q⟩
    have e : b = s1.heap.objs.size := by simpa using hb
    subst e
    exact I1.fpOk (Nat.le_refl _) (I1.hok.fresh (Nat.le_refl _))
  · subst e
    cases r1
    obtain ⟨its, rv, p, hz⟩ := I1.tuple hq
    refine wpAny_pyIter_tuple (show s1.heap.IsTuple a its.toArray from p) ?_
    refine ⟨s1.heap.objs.size, [s1.heap.objs.size], _, _, H1, rfl, I1.kept (t' := s1.toks) fun b o e => Heap.get?_push_of_some _ e, turn_tuple a _, ⟨_, Heap.get?_push_size _ rfl, rfl, rfl⟩, fun b hb => ?_, q⟩
    have e : b = s1.heap.objs.size := by simpa using hb
    subst e
    exact I1.fpOk (Nat.le_refl _) (I1.hok.fresh (Nat.le_refl _))
end
def items? : T → Option (List T)
  | .lst l => some l
  | .tup l => some l
  | _ => none
def iIt (fa : FE) : FI := fun ρ => (fa ρ).bind fun x => Res.of (items? x)
def iRg (fa : FE) : FI := fun ρ => (fa ρ).bind fun x => match x with | .int n => if -100000 ≤ n ∧ n ≤ 100000 then .ok ((List.range n.toNat).map fun i => .int (i : Nat)) else .bad | _ => .bad
def iRg2 (fa fb : FE) : FI := fun ρ => (fa ρ).bind fun x => (fb ρ).bind fun y => match x, y with
  | .int a, .int b => if -100000 ≤ a ∧ a ≤ 100000 ∧ -100000 ≤ b ∧ b ≤ 100000 then .ok ((List.range (b - a).toNat).map fun i => .int (a + (i : Nat))) else .bad
  | _, _ => .bad
section
variable {X : Cx} {B : BS} {W : WX} {a b c e tg elt : Expr} {fa fb fc : FE} {f g : FS} {pos p : Pos} {body : List Stmt}
theorem bindI {C : KM} {σ : L2.St} {H G : Hp} {ρ : Ev'} {fa : FE} {k : T → Res (List T)} {R : It → Hp → Prop} {Q1 : VK} (h : SR C B σ H ρ G) (p : PostI C W σ H G ((fa ρ).bind k) R)
    (c : ∀ t v H1 G1, Gr H G H1 G1 → SR C B σ H1 ρ G1 → Is C G1 t v → PostI C W σ H1 G1 (k t) R → Q1 v H1) : tM C B .E W fa σ H Q1 := by
  refine ⟨ρ, G, h, ?_⟩
  cases e : fa ρ with
  | ok t =>
    rw [e] at p
    intro v H' G' g i
    refine c t v H' G' g (h.ext g) i ?_
    have p' : PostI C W σ H G (k t) R := p
    cases q : k t with
    | ok l => rw [q] at p'; exact fun J H2 G2 g2 w => p' J H2 G2 (g.trans g2) w
    | ex x y => rw [q] at p'; exact fun cls d H2 G2 g2 w => p' cls d H2 G2 (g.trans g2) w
    | bad => rw [q] at p'; exact p'
  | ex x p' =>
    rw [e] at p
    exact p
  | bad =>
    rw [e] at p
    exact p.elim
theorem i_seq (ha : DE X B W .E a fa) : DI X B W tg a (iIt fa) := PI.imp (pi_seq ha) fun σ H R ⟨ρ, G, s, p⟩ => bindI s p fun t v H1 G1 g s1 i p1 => by
  cases t with
  | lst l =>
    unfold Is at i
    obtain ⟨a, vs, rfl, h1, h2⟩ := i
    exact ⟨a, rfl, .inl ⟨⟨vs, SqL.of (s1.exGH _ _ h1)⟩, p1 _ H1 G1 (Gr.refl s1.exGH) (wk_list h1 h2)⟩⟩
  | tup l =>
    unfold Is at i
    obtain ⟨a, vs, rfl, h1, h2⟩ := i
    exact ⟨a, rfl, .inr ⟨⟨vs, ex_t s1.exGH h1⟩, p1 _ H1 G1 (Gr.refl s1.exGH) (wk_tup h1 h2)⟩⟩
  | _ => exact p1.elim
theorem i_rg (hg : Gl X "range") (hm : X.mg "range" = none) (ha : DE X B W .E a fa) (hs : starEach [a] X.env = [(false, eval a X.env)] := by rfl) (he : starEach [a] X.env = (false, eval a X.env) :: starEach [] X.env := by rfl) : DI X B W tg (.Call (.Name "range" p) [a] [] pos) (iRg fa) :=
  PI.imp (pi_range1 hg hm (pa_cons ha pa_nil he) hs) fun σ H R ⟨ρ, G, s, p⟩ => bindI (Q1 := fun x H1 => tNil σ H1 fun xs H2 => ∃ j : Int, x :: xs = [.int j] ∧ -(2 ^ 62) ≤ j ∧ j < 2 ^ 62 ∧ R (Itr 0 j.toNat) H2) s p fun t v H1 G1 g s1 i p1 => by
    cases t with
    | int n =>
      have p2 : PostI (km X) W σ H1 G1 (if -100000 ≤ n ∧ n ≤ 100000 then .ok ((List.range n.toNat).map fun i => T.int (i : Nat)) else .bad) R := p1
      split at p2
      · rename_i hn
        have e := Is.int1 i
        subst e
        exact ⟨n, rfl, by omega, by omega, p2 _ H1 G1 (Gr.refl s1.exGH) (wk_range n)⟩
      · exact p2.elim
    | _ => exact p1.elim

/-! ### for -/
def loopF (g : Tg) (body : FS) : List T → Ev' → Out
  | [], ρ => .nx ρ
  | x :: xs, ρ => match setT g x ρ with
    | none => .bad
    | some ρ1 => match body ρ1 with
      | .nx ρ2 => loopF g body xs ρ2
      | .ct ρ2 => loopF g body xs ρ2
      | .bk ρ2 => .nx ρ2
      | .rt t => .rt t
      | .ex x p r => .ex x p r
      | .bad => .bad
def sFor (fi : FI) (g : Tg) (body : FS) : FS := fun ρ => match fi ρ with
  | .ok l => loopF g body l ρ
  | .ex x p => .ex x p ρ
  | .bad => .bad
theorem st_for {fi : FI} {g : Tg} (hp : PassesOwn (model X.prog X.w) X.A X.env X.xe) (hc : X.calm = true) (hi : DI X B W tg e fi) (hg : DG X tg g) (hb : DSs X B W body f) (hs : ∀ x, foldedSetIterable e X.env x = pure x := by intro _; rfl) :
    DS X B W (.For tg e body [] pos) (sFor fi g f) := PS.imp (ps_for hp hc hi hg hb hs) fun D σ H ⟨ρ, G, s, p⟩ => by
  refine ⟨ρ, G, s, ?_⟩
  unfold sFor at p
  cases ei : fi ρ with
  | bad =>
    rw [ei] at p
    exact p
  | ex x q =>
    rw [ei] at p
    exact fun cls d H' G' g i => p cls d σ H' G' (s.ext g) g.eg i
  | ok l =>
    rw [ei] at p
    intro J H0 G0 g0 wk
    refine ⟨fun i m σ' H' => m = l.length - i ∧ i ≤ l.length ∧ ∃ ρ' G', SR (km X) B σ' H' ρ' G' ∧ Ex G0 G' ∧ PostS (km X) B W D G' (loopF g f (l.drop i) ρ'), ⟨_, rfl, Nat.zero_le _, ρ, G0, s.ext g0, Ex.refl _, PostS.mono g0.eg p⟩, ?_⟩
    rintro i m σ' H' ⟨rfl, hi, ρ', G', s', e', p'⟩
    by_cases hlt : i < l.length
    · have hd : l.drop i = l[i] :: l.drop (i + 1) := List.drop_eq_getElem_cons hlt
      rw [hd] at p'
      refine .inr ⟨wk.go i H' (e'.trans s'.exGH) hlt, fun σ2 H2 => i + 1 ≤ l.length ∧ ∃ ρ2 G2, SR (km X) B σ2 H2 ρ2 G2 ∧ Ex G0 G2 ∧ PostS (km X) B W D G2 (loopF g f (l.drop (i + 1)) ρ2), fun σ2 H2 ⟨h1, h2⟩ => ⟨l.length - (i + 1), by omega, rfl, h1, h2⟩, fun x H2 y => ?_⟩
      obtain ⟨G2, g2, ix⟩ := wk.yld i H' G' x H2 l[i] e' s'.exGH (List.getElem?_eq_getElem hlt) y
      have s2 := s'.ext g2
      have p2 := PostS.mono g2.eg p'
      unfold loopF at p2
      cases et : setT g l[i] ρ' with
      | none =>
        rw [et] at p2
        exact p2.elim
      | some ρ1 =>
        rw [et] at p2
        refine tg_of (C := km X) s2 ix et fun σ3 s3 => ⟨ρ1, G2, s3, ?_⟩
        have e2 : Ex G0 G2 := e'.trans g2.eg
        cases eb : f ρ1 with
        | nx ρ4 =>
          simp only [eb] at p2
          exact fun σ4 H4 G4 s4 k4 => ⟨hlt, ρ4, G4, s4, e2.trans k4, PostS.mono k4 p2⟩
        | ct ρ4 =>
          simp only [eb] at p2
          exact fun σ4 H4 G4 s4 k4 => ⟨hlt, ρ4, G4, s4, e2.trans k4, PostS.mono k4 p2⟩
        | bk ρ4 =>
          simp only [eb] at p2
          exact p2
        | rt t =>
          simp only [eb] at p2
          exact p2
        | ex x q r =>
          simp only [eb] at p2
          exact p2
        | bad =>
          simp only [eb] at p2
          exact p2.elim
    · have e : i = l.length := by omega
      subst e
      rw [List.drop_length] at p'
      exact .inl ⟨wk.stop H' (e'.trans s'.exGH), p' σ' H' G' s' (Ex.refl _)⟩

/-! ### while -/
def whF (fc : FE) (body : FS) : Nat → Ev' → Out
  | 0, _ => .bad
  | n + 1, ρ => sLift ρ (fc ρ) fun t => match t with
    | .bl true => (match body ρ with
      | .nx ρ2 => whF fc body n ρ2
      | .ct ρ2 => whF fc body n ρ2
      | .bk ρ2 => .nx ρ2
      | .rt t => .rt t
      | .ex x p r => .ex x p r
      | .bad => .bad)
    | .bl false => .nx ρ
    | _ => .bad
def sWhile (n : Nat) (fc : FE) (body : FS) : FS := whF fc body n
theorem st_while {n : Nat} (hp : PassesOwn (model X.prog X.w) X.A X.env X.xe) (hc : DT X B W c fc) (hb : DSs X B W body f) : DS X B W (.While c body [] pos) (sWhile n fc f) := PS.imp (ps_while hp hc hb) fun D σ H ⟨ρ, G, s, p⟩ => by
  refine ⟨fun m σ' H' => ∃ ρ' G', SR (km X) B σ' H' ρ' G' ∧ PostS (km X) B W D G' (whF fc f m ρ'), ⟨n, ρ, G, s, p⟩, ?_⟩
  rintro m σ' H' ⟨ρ', G', s', p'⟩
  cases m with
  | zero => exact p'.elim
  | succ m =>
    unfold whF at p'
    refine bindStT s' p' (fun t ht => by cases t with | bl b => exact absurd rfl (ht b) | _ => rfl) fun b H1 G1 g s1 p1 => ?_
    cases b with
    | false => exact iteF (p1 σ' H1 G1 s1 (Ex.refl _))
    | true =>
      refine iteT ⟨fun σ2 H2 => ∃ ρ2 G2, SR (km X) B σ2 H2 ρ2 G2 ∧ PostS (km X) B W D G2 (whF fc f m ρ2), fun σ2 H2 h => ⟨m, Nat.lt_succ_self m, h⟩, ρ', G1, s1, ?_⟩
      cases eb : f ρ' with
      | nx ρ4 =>
        simp only [eb] at p1
        exact fun σ4 H4 G4 s4 k4 => ⟨ρ4, G4, s4, PostS.mono k4 p1⟩
      | ct ρ4 =>
        simp only [eb] at p1
        exact fun σ4 H4 G4 s4 k4 => ⟨ρ4, G4, s4, PostS.mono k4 p1⟩
      | bk ρ4 =>
        simp only [eb] at p1
        exact p1
      | rt t =>
        simp only [eb] at p1
        exact p1
      | ex x q r =>
        simp only [eb] at p1
        exact p1
      | bad =>
        simp only [eb] at p1
        exact p1.elim

/-! ### raise -/
def sRaise (x : Str) : FS := fun ρ => .ex x [] ρ
theorem st_raise {D : Addr} {bmB : List Value} {BB newId initId : String} {x m : Str} {j : Nat} {p p2 p3 : Pos} (hc : X.calm = true) (tk : Takes X W) (F : ExcBaseFacts BB newId initId bmB) (q : PySem.W.excIn X.K D bmB newId = true) (gC : X.mg x = some (.ref D)) (kC : PySem.W.keepIn X.K (.ref D) = true)
    (r : Raises X (.ref D)) (hg : Gl X x) (hdb : (x == ("__debug__" : Str)) = false := by decide) : DS X B W (.Raise (some (.Call (.Name x p) [.Constant (.str m) j p2] [] p3)) none pos) (sRaise x) :=
  PS.imp (ps_raise hc tk (pmk_own F q gC kC r hg hdb)) fun D' σ H ⟨ρ, G, s, h⟩ => h (.ref D) none σ H G s (Ex.refl _) ⟨D, gC, rfl, rfl⟩
end
end VS

namespace VS
open PySem PySem.Spec PyProof.Rows L2 Evl

/-! ### list comprehensions -/
abbrev W0 : WX := fun _ _ _ _ => False
theorem tk0 {X : Cx} : Tk X W0 := fun σ pins H s e s' I c => by
  obtain ⟨_, _, _, _, _, _, _, _, _, _, _, _, z⟩ := c
  exact z.elim
def wipeE (ρ : Ev') : List Nat → Ev'
  | [] => ρ
  | v :: vs => (wipeE ρ vs).set v .un
def compF (g : Tg) (fc fe : FE) : List T → Ev' → Res (List T)
  | [], _ => .ok []
  | x :: xs, ρ => match setT g x ρ with
    | none => .bad
    | some ρ1 => match fc ρ1 with
      | .ok (.bl true) => (match fe ρ1 with
        | .ok t => (compF g fc fe xs ρ).bind fun r => .ok (t :: r)
        | _ => .bad)
      | .ok (.bl false) => compF g fc fe xs ρ
      | _ => .bad
def eComp (fi : FI) (g : Tg) (own : List Nat) (fc fe : FE) : FE := fun ρ => (fi ρ).bind fun l => (compF g fc fe l (wipeE ρ own)).bind fun ts => if ts.length ≤ 99999 then .ok (.lst ts) else .bad
def tgs : Tg → List Nat
  | .nm i => [i]
  | .tp is => is
section
variable {C : KM} {B : BS} {σ : L2.St} {H G : Hp} {ρ : Ev'}
theorem SR.wipe (s : SR C B σ H ρ G) : ∀ vs : List Nat, SR C B (L2.wipe σ vs) H (wipeE ρ vs) G
  | [] => s
  | v :: vs => (s.wipe vs).setUn
theorem wipe_get {σ : L2.St} {j : Nat} : ∀ vs : List Nat, (L2.wipe σ vs)[j]? = if j ∈ vs then σ[j]?.map (fun _ => none) else σ[j]?
  | [] => by simp [L2.wipe]
  | v :: vs => by
    unfold L2.wipe
    by_cases e : v = j
    · subst e
      rw [if_pos (List.mem_cons_self)]
      by_cases hl : v < σ.length
      · rw [List.getElem?_set_self (by rw [wipe_length]; exact hl), List.getElem?_eq_getElem hl]
        rfl
      · rw [List.getElem?_eq_none (by rw [List.length_set, wipe_length]; omega), List.getElem?_eq_none (by omega)]
        rfl
    · rw [List.getElem?_set_ne e, wipe_get vs]
      by_cases m : j ∈ vs
      · rw [if_pos m, if_pos (List.mem_cons_of_mem _ m)]
      · rw [if_neg m, if_neg (by simp only [List.mem_cons, not_or]; exact ⟨Ne.symm e, m⟩)]
theorem wipe_same {σ σ' : L2.St} {vs : List Nat} (hl : σ.length = σ'.length) (h : ∀ j : Nat, j ∉ vs → σ'[j]? = σ[j]?) : L2.wipe σ' vs = L2.wipe σ vs := by
  apply List.ext_getElem?
  intro j
  rw [wipe_get, wipe_get]
  by_cases m : j ∈ vs
  · rw [if_pos m, if_pos m]
    by_cases hj : j < σ.length
    · rw [List.getElem?_eq_getElem hj, List.getElem?_eq_getElem (by omega)]
      rfl
    · rw [List.getElem?_eq_none (by omega), List.getElem?_eq_none (by omega)]
  · rw [if_neg m, if_neg m, h j m]
theorem names_keep {Q : L2.St → Hp → Prop} : ∀ {is : List Nat} {vs : List V} {σ : L2.St}, gNames is vs σ H Q → gNames is vs σ H (fun σ2 H2 => (σ2.length = σ.length ∧ ∀ j : Nat, j ∉ is → σ2[j]? = σ[j]?) ∧ Q σ2 H2)
  | [], vs, σ, h => by
    obtain ⟨h1, h2⟩ := h
    exact ⟨h1, ⟨rfl, fun _ _ => rfl⟩, h2⟩
  | i :: is, vs, σ, h => by
    obtain ⟨v, r, rfl, h⟩ := h
    have h' : gNames is r (σ.set i (some v)) H Q := h
    refine ⟨v, r, rfl, ?_⟩
    show gNames is r (σ.set i (some v)) H _
    have k := names_keep h'
    have imp : ∀ {is : List Nat} {vs : List V} {σ : L2.St} {P P' : L2.St → Hp → Prop}, (∀ a b, P a b → P' a b) → gNames is vs σ H P → gNames is vs σ H P' := fun {is} => by
      induction is with
      | nil => intro vs σ P P' im ⟨a, b⟩; exact ⟨a, im _ _ b⟩
      | cons i is ih => intro vs σ P P' im ⟨v, r, e, q⟩; exact ⟨v, r, e, ih (vs := r) (σ := σ.set i (some v)) im q⟩
    refine imp (fun σ2 H2 ⟨⟨a, b⟩, c⟩ => ⟨⟨by rw [a, List.length_set], fun j hj => ?_⟩, c⟩) k
    simp only [List.mem_cons, not_or] at hj
    rw [b j hj.2, List.getElem?_set_ne (Ne.symm hj.1)]
theorem tg_keep {K : PySem.W.Frag} {g : Tg} {v : V} {Q : L2.St → Hp → Prop} (h : tG K g v σ H Q) : tG K g v σ H (fun σ2 H2 => (σ2.length = σ.length ∧ ∀ j : Nat, j ∉ tgs g → σ2[j]? = σ[j]?) ∧ Q σ2 H2) := by
  cases g with
  | nm i =>
    have h' : Q (σ.set i (some v)) H := h
    exact ⟨⟨List.length_set, fun j hj => List.getElem?_set_ne (by simp only [tgs, List.mem_singleton] at hj; exact Ne.symm hj)⟩, h'⟩
  | tp is =>
    obtain ⟨a, xs, e, h1, h2, h3⟩ := h
    exact ⟨a, xs, e, h1, h2, names_keep h3⟩
end
section
variable {X : Cx} {B : BS} {W : WX} {tg iter elt : Expr} {ifs : List Expr} {scope : Scope} {own : List (Str × Nat)} {pos : Pos} {fi : FI} {g : Tg} {fc fe : FE}
/-- a clause's tests -/
def DTs (X : Cx) (B : BS) (W : WX) (ifs : List Expr) (f : FE) : Prop := PTs X ifs (tMT (km X) B W f)
theorem PTs.imp {X : Cx} {e : List Expr} {t t' : TT} (h : PTs X e t) (i : ∀ σ H Q, t' σ H Q → t σ H Q) : PTs X e t' := ⟨fun pins s σ H Q I q => h.run pins s σ H Q I (i σ H Q q)⟩
theorem ts_nil : DTs X B W [] (eC (.bl true)) := PTs.imp pts_nil fun σ H Q ⟨ρ, G, s, p⟩ => p H G (Gr.refl s.exGH)
theorem ts_one {c : Expr} (h : DT X B W c fc) : DTs X B W [c] fc := pts_one h
theorem comp_of {C : KM} {σ : L2.St} {H : Hp} {Q : VK} {vs : List Nat} (hw : ∀ i ∈ tgs g, i ∈ vs) (h : tM C B .N W (eComp fi g vs fc fe) σ H Q) :
    tLc (tI C B W fi) (tG C.K g) (tMT C B W0 fc) (tM C B .E W0 fe) vs σ H Q := by
  obtain ⟨ρ, G, s, p⟩ := h
  refine ⟨ρ, G, s, ?_⟩
  unfold eComp at p
  cases ei : fi ρ with
  | bad =>
    rw [ei] at p
    exact p
  | ex x q =>
    rw [ei] at p
    exact p
  | ok l =>
    rw [ei] at p
    intro J H1 G1 g1 wk D hD
    have s1 := s.ext g1
    have sw := s1.wipe vs
    have hD0 : H D = none := fresh_back g1.eh hD
    have hDB : B.1 D = none := fresh_back s1.gr.eh hD
    have hDG : G1 D = none := ex_none s1.exGH hD
    have p1 : Post C .N W σ H G ((compF g fc fe l (wipeE ρ vs)).bind fun ts => if ts.length ≤ 99999 then .ok (.lst ts) else .bad) Q := p
    cases ec : compF g fc fe l (wipeE ρ vs) with
    | bad =>
      rw [ec] at p1
      exact p1.elim
    | ex x q => -- never
      have no : ∀ l : List T, ∀ x q, compF g fc fe l (wipeE ρ vs) ≠ .ex x q := by
        intro l
        induction l with
        | nil => intro x q z; cases z
        | cons a r ih =>
          intro x q z
          unfold compF at z
          split at z
          · cases z
          · split at z
            · split at z
              · cases er : compF g fc fe r (wipeE ρ vs) with
                | ok w => rw [er] at z; cases z
                | ex x' q' => exact ih x' q' er
                | bad => rw [er] at z; cases z
              · cases z
            · exact ih x q z
            · cases z
      exact (no l x q ec).elim
    | ok ts =>
      rw [ec] at p1
      have p2 : Post C .N W σ H G (if ts.length ≤ 99999 then .ok (.lst ts) else .bad) Q := p1
      split at p2
      · rename_i hlen
        refine ⟨fun i m H' => m = l.length - i ∧ i ≤ l.length ∧ ∃ G' acc tacc rest, SR C B (L2.wipe σ vs) H' (wipeE ρ vs) G' ∧ Gr H1 G1 H' G' ∧ G' D = none ∧ H' D = some (.lst acc) ∧ IsL C G' tacc acc ∧ compF g fc fe (l.drop i) (wipeE ρ vs) = .ok rest ∧ tacc ++ rest = ts,
          ⟨_, rfl, Nat.zero_le _, G1, [], [], ts, ?_, Gr.own s1.exGH hD, hDG, upd_same, IsL.nil, by rw [List.drop_zero]; exact ec, rfl⟩, ?_⟩
        · refine sw.beside hDB hDG (fun i t e ea => ?_) (sw.dpFree (Gr.refl sw.exGH) hD)
          obtain ⟨a, o, q1, _, q3, _⟩ := sw.ow i t e
          rw [q1] at ea
          cases ea
          rw [hD] at q3
          cases q3
        · rintro i m H' ⟨rfl, hi, G', acc, tacc, rest, sr, gr, gD, hA, isA, er, et⟩
          by_cases hlt : i < l.length
          · have hd : l.drop i = l[i] :: l.drop (i + 1) := List.drop_eq_getElem_cons hlt
            rw [hd] at er
            unfold compF at er
            refine .inr ⟨wk.go i H' (gr.eg.trans sr.exGH) hlt, fun H2 => i + 1 ≤ l.length ∧ ∃ G' acc tacc rest, SR C B (L2.wipe σ vs) H2 (wipeE ρ vs) G' ∧ Gr H1 G1 H2 G' ∧ G' D = none ∧ H2 D = some (.lst acc) ∧ IsL C G' tacc acc ∧ compF g fc fe (l.drop (i + 1)) (wipeE ρ vs) = .ok rest ∧ tacc ++ rest = ts,
              fun H2 ⟨h1, h2⟩ => ⟨l.length - (i + 1), by omega, rfl, h1, h2⟩, fun x H2 y => ?_⟩
            obtain ⟨G2, g2, ix⟩ := wk.yld i H' G' x H2 l[i] gr.eg sr.exGH (List.getElem?_eq_getElem hlt) y
            have s2 := sr.ext g2
            have gD2 : G2 D = none := g2.sep _ _ gD hA
            have hA2 := g2.eh _ _ hA
            cases est : setT g l[i] (wipeE ρ vs) with
            | none =>
              simp only [est] at er
              cases er
            | some ρ1 =>
              simp only [est] at er
              have base : tG C.K g x (L2.wipe σ vs) H2 (fun σ3 H3 => H3 = H2 ∧ SR C B σ3 H3 ρ1 G2) := tg_of (C := C) s2 ix est fun σ3 s3 => ⟨rfl, s3⟩
              have imp : ∀ {P P' : L2.St → Hp → Prop}, (∀ a b, P a b → P' a b) → tG C.K g x (L2.wipe σ vs) H2 P → tG C.K g x (L2.wipe σ vs) H2 P' := fun {P P'} im h => by
                cases g with
                | nm i => exact im _ _ h
                | tp is =>
                  obtain ⟨a, xs, e, h1, h2, h3⟩ := h
                  refine ⟨a, xs, e, h1, h2, ?_⟩
                  have imp2 : ∀ {is : List Nat} {ws : List V} {σ : L2.St}, gNames is ws σ H2 P → gNames is ws σ H2 P' := fun {is} => by
                    induction is with
                    | nil => intro ws σ ⟨a, b⟩; exact ⟨a, im _ _ b⟩
                    | cons i is ih => intro ws σ ⟨v, r, e, q⟩; exact ⟨v, r, e, ih (ws := r) (σ := σ.set i (some v)) q⟩
                  exact imp2 h3
              refine imp (fun σ3 H3 ⟨⟨kl, kj⟩, eH, s3⟩ => ?_) (tg_keep base)
              subst eH
              refine ⟨(wipe_same (σ := L2.wipe σ vs) kl.symm fun j hj => kj j fun z => hj (hw j z)).trans (wipe_same (wipe_length σ vs).symm fun j hj => by rw [wipe_get, if_neg hj]), ρ1, G2, s3, ?_⟩
              cases efc : fc ρ1 with
              | ok t =>
                simp only [efc] at er
                cases t with
                | bl b =>
                  intro H4 G4 g4
                  have s4 := s3.ext g4
                  have gD4 : G4 D = none := g4.sep _ _ gD2 hA2
                  have hA4 := g4.eh _ _ hA2
                  have sr4 := sr.ext (g2.trans g4)
                  cases b with
                  | true =>
                    refine iteT ⟨ρ1, G4, s4, ?_⟩
                    cases efe : fe ρ1 with
                    | ok t =>
                      simp only [efe] at er
                      intro v H5 G5 g5 iv
                      cases ec2 : compF g fc fe (l.drop (i + 1)) (wipeE ρ vs) with
                      | ok r2 =>
                        rw [ec2] at er
                        have er' : (Res.ok (t :: r2) : Res (List T)) = .ok rest := er
                        cases er'
                        have gD5 : G5 D = none := g5.sep _ _ gD4 hA4
                        have hA5 := g5.eh _ _ hA4
                        have isA5 : IsL C G5 tacc acc := IsL.mono ((g2.eg.trans g4.eg).trans g5.eg) _ _ isA
                        have sr5 := sr4.ext g5
                        have la : tacc.length + (r2.length + 1) = ts.length := by rw [← et, List.length_append, List.length_cons]
                        refine ⟨acc, hA5, sz_lt (by rw [← isA5.length]; omega), hlt, G5, acc ++ [v], tacc ++ [t], r2, ?_, ?_, gD5, upd_same, isA5.app (IsL.one iv), rfl, by rw [List.append_assoc]; exact et⟩
                        · refine sr5.beside hDB gD5 (fun j u e ea => ?_) (sw.dpFree (((gr.trans g2).trans g4).trans g5) hD)
                          obtain ⟨a, o, q1, _, q3, _⟩ := sw.ow j u e
                          rw [q1] at ea
                          cases ea
                          rw [hD] at q3
                          cases q3
                        · have gg := ((gr.trans g2).trans g4).trans g5
                          exact ⟨Ex.mut gg.eh hD, gg.eg, Ex.mut gg.gh gD5, gg.sep⟩
                      | ex x q => rw [ec2] at er; cases er
                      | bad => rw [ec2] at er; cases er
                    | ex x q => simp only [efe] at er; cases er
                    | bad => simp only [efe] at er; cases er
                  | false =>
                    exact iteF ⟨hlt, G4, acc, tacc, rest, sr4, (gr.trans g2).trans g4, gD4, hA4, IsL.mono (g2.eg.trans g4.eg) _ _ isA, er, et⟩
                | _ => cases er
              | ex x q => simp only [efc] at er; cases er
              | bad => simp only [efc] at er; cases er
          · have e : i = l.length := by omega
            subst e
            rw [List.drop_length] at er
            have er' : (Res.ok [] : Res (List T)) = .ok rest := er
            cases er'
            rw [List.append_nil] at et
            subst et
            refine .inl ⟨wk.stop H' (gr.eg.trans sr.exGH), p2 _ H' G' (g1.trans gr) ⟨D, _, rfl, hD0, hA, gD, acc, rfl, isA⟩⟩
      · exact p2.elim
theorem d_lc (hc : X.calm = true) (hN : X.N.Nodup) (hi : DI X B W tg iter fi) (ok : BlkOk X.N X.env.scope scope own) (hw : ∀ i ∈ tgs g, i ∈ own.map (·.2))
    (hg : ∀ (s : Shared) (H : Hp) (C : Addr) (cl : List (Str × Addr)) (fp : List Addr), DG (X.blk s H scope (compEnvC scope cl C X.env) fp) tg g)
    (ht : ∀ (s : Shared) (H : Hp) (C : Addr) (cl : List (Str × Addr)) (fp : List Addr), DTs (X.blk s H scope (compEnvC scope cl C X.env) fp) B W0 ifs fc)
    (he : ∀ (s : Shared) (H : Hp) (C : Addr) (cl : List (Str × Addr)) (fp : List Addr), DE (X.blk s H scope (compEnvC scope cl C X.env) fp) B W0 .E elt fe) (hs : ∀ x, foldedSetIterable iter X.env x = pure x := by intro _; rfl) :
    DE X B W .N (.ListComp elt [⟨tg, iter, ifs, 0⟩] scope pos) (eComp fi g (own.map (·.2)) fc fe) :=
  PE.imp (pe_lc (g := tG X.K g) (tt := tMT (km X) B W0 fc) (te := tM (km X) B .E W0 fe) hc hN hi ok hg ht he hs) fun σ H Q h => comp_of hw h
/-- name = [..] on one line -/
theorem st_newLc {i : Nat} {y : Str} {py spos : Pos} (hc : X.calm = true) (hN : X.N.Nodup) (hy : X.N[i]? = some y) (hyl : X.env.scope.names.lookup y = some .local)
    (hsw : swapsWith (.ListComp elt [⟨tg, iter, ifs, 0⟩] scope pos) (some (.Name y py)) spos.line X.env = pure true) (hi : DI X B W tg iter fi) (ok : BlkOk X.N X.env.scope scope own) (hw : ∀ i ∈ tgs g, i ∈ own.map (·.2))
    (hg : ∀ (s : Shared) (H : Hp) (C : Addr) (cl : List (Str × Addr)) (fp : List Addr), DG (X.blk s H scope (compEnvC scope cl C X.env) fp) tg g)
    (ht : ∀ (s : Shared) (H : Hp) (C : Addr) (cl : List (Str × Addr)) (fp : List Addr), DTs (X.blk s H scope (compEnvC scope cl C X.env) fp) B W0 ifs fc)
    (he : ∀ (s : Shared) (H : Hp) (C : Addr) (cl : List (Str × Addr)) (fp : List Addr), DE (X.blk s H scope (compEnvC scope cl C X.env) fp) B W0 .E elt fe) (hs : ∀ x, foldedSetIterable iter X.env x = pure x := by intro _; rfl) :
    DS X B W (.Assign [.Name y py] (.ListComp elt [⟨tg, iter, ifs, 0⟩] scope pos) spos) (sNew i (eComp fi g (own.map (·.2)) fc fe)) :=
  PS.imp (ps_setLc (g := tG X.K g) (tt := tMT (km X) B W0 fc) (te := tM (km X) B .E W0 fe) hc hN hy hyl hsw hi ok hg ht he hs) fun D σ H ⟨ρ, G, s, p⟩ => comp_of hw (bindSt s p fun t v H1 G1 g s1 i p1 => by
    obtain ⟨a, o, rfl, h1, h2, h3, h4⟩ := i
    refine p1 _ H1 G1 (s1.set (fun u e => by cases e) (fun u e => ?_) (fun y p e => by cases e) (fun d e => by cases e) (fun t b _ eb => by cases eb; exact s.dpFree g h1)) (Ex.refl _)
    cases e
    refine ⟨a, o, rfl, fresh_back s.gr.eh h1, h2, h3, h4, fun j w ej ea => ?_⟩
    obtain ⟨b, ob, q1, _, q3, _⟩ := s.ow j w ej
    rw [q1] at ea
    cases ea
    rw [h1] at q3
    cases q3)
end
end VS

/-! enumerate over a tuple -/
namespace PySem
open Sem (wp)
theorem vs_enum_new {v : Value} {o : Obj} {H : Heap → Prop} (B : Begins v o H) :
    Meets (Builtin.«enumerate.__new__» ⟨[.type "enumerate", v], []⟩) (fun _ R s => H s.heap ∧
      R (.ok (.ret (.ref (s.heap.push o).objs.size))) { s with heap := (s.heap.push o).push { cls := .type "enumerate", data := .fields #[.none, .bool false, .ref s.heap.objs.size, rawInt 0, .none, .none] } }) :=
  .of_wp fun prog w A R s h => by
    obtain ⟨hp, g, d, tk, os⟩ := s; obtain ⟨h1, h⟩ := h
    have hsub := sub_enumerate
    have q1 : ∀ {A' : Around} {E : Value → Shared → Prop} {Q : Value → Shared → Prop}, Q (.ref hp.objs.size) ⟨hp.push o, g, d, tk, os⟩ → wpAny (model prog w) A' (pyIter v) Q E ⟨hp, g, d, tk, os⟩ :=
      fun q => B.iter prog w _ _ ⟨hp, g, d, tk, os⟩ _ h1 q
    wp_walk using q1
    refine wpAny_stack_any fun st => wpAny_pure ?_
    split
    · rename_i c _ _ _ _ _
      cases (c == Value.type "enumerate")
      · wp_walk using q1
        exact ⟨_, rfl, h⟩
      · wp_walk using q1
        exact ⟨_, rfl, h⟩
    · wp_walk using q1
      exact ⟨_, rfl, h⟩
theorem vs_call_enum {prog : Program} {w : World} {A : Around} {E : Value → Shared → Prop} {s : Shared} {v : Value} {o : Obj} {H : Heap → Prop} {Q : Value → Shared → Prop} (B : Begins v o H) (h1 : H s.heap)
    (h : ∀ h', IsEnum h' (s.heap.objs.size + 1) s.heap.objs.size 0 .none → h'.get? s.heap.objs.size = some o → h'.objs.size = s.heap.objs.size + 2 →
      (∀ b o, s.heap.get? b = some o → h'.get? b = some o) → Q (.ref (s.heap.objs.size + 1)) { s with heap := h' }) :
    wpAny (model prog w) A (call (.type "enumerate") [v]) Q E s := by
  refine callType_new F.called_enumerate (by decide) (F.typeCall_enumerate_1 _) (F.newCall_enumerate_1 _) (fun obj => F.args_object_init_2 obj _) F.entry_enumerate_new (vs_enum_new B) ⟨h1, ?_⟩
  have hz : (s.heap.push o).objs.size = s.heap.objs.size + 1 := Heap.size_push ..
  show _ ∧ _
  rw [hz]
  have he : IsEnum ((s.heap.push o).push { cls := .type "enumerate", data := .fields #[.none, .bool false, .ref s.heap.objs.size, rawInt 0, .none, .none] }) (s.heap.objs.size + 1) s.heap.objs.size 0 .none := by
    have := Heap.get?_push_size (s.heap.push o) (o := { cls := .type "enumerate", data := .fields #[.none, .bool false, .ref s.heap.objs.size, rawInt 0, .none, .none] }) rfl
    rw [hz] at this; exact this
  refine ⟨⟨_, he, rfl⟩, h _ he (Heap.get?_push_of_some _ (Heap.get?_push_size _ B.free)) (by rw [Heap.size_push, hz]) fun b o x => Heap.get?_push_of_some _ (Heap.get?_push_of_some _ x)⟩
end PySem
namespace VS
open PySem PySem.Spec PyProof.Rows L2 Evl
theorem isTuple_of {h : Heap} {a : Addr} {its : Array Value} (p : IsTup h a its) : h.IsTuple a its := p
def IteT (K : PySem.W.Frag) (a : Addr) : It :=
  ⟨fun i H => ∃ (xs : List V) (x : V), SqT K H a xs ∧ xs[i]? = some x, fun i H v H' => ∃ T x, v = .ref T ∧ H T = none ∧ H' = upd H T (.tup [.int (i : Nat), x]) ∧ ∀ xs, SqT K H a xs → xs[i]? = some x, fun i H => ∃ xs : List V, SqT K H a xs ∧ xs.length ≤ i⟩
theorem turn_enumT {P : Program} {w : World} {K : PySem.W.Frag} {elts : List Expr} {kk : Nat} {tpos : Pos} (a e it : Addr) :
    Turn P w K (.Tuple elts kk tpos) (IteT K a) [e, it] e (fun i h => (∃ old, IsEnum h e it ((i : Nat) : Int) old) ∧ h.IsTupleIter it a i ∧ e ≠ it ∧ a ≠ it ∧ e ≠ a) where
  mem := by simp
  obj := fun i h st b hb => by
    obtain ⟨⟨old, he⟩, ⟨o, ho, hc, hd⟩, _⟩ := st
    have e' : b = e ∨ b = it := by simpa using hb
    rcases e' with z | z
    · rw [z]; exact ⟨_, he, fun v q => nomatch q⟩
    · rw [z]; exact ⟨o, ho, fun v q => by rw [hd] at q; cases q⟩
  keep := fun i h h' st k => let ⟨⟨old, he⟩, hi, hne⟩ := st; ⟨⟨old, k e (by simp) _ he⟩, hi.at fun o q => k it (by simp) o q, hne⟩
  item := by
    intro X hP hw hK hc i pins s σ H E I hf st hg
    subst hP hw hK
    obtain ⟨⟨old, he⟩, hit, hne, hai, hea⟩ := st
    obtain ⟨xs, x, hq, hx⟩ := hg
    obtain ⟨its, rv, p, hz⟩ := I.tuple hq
    obtain ⟨u, hu, ru⟩ := rv.get hx
    have hel : e < s.heap.objs.size := Heap.lt_size he
    have hil : it < s.heap.objs.size := by obtain ⟨_, q, _⟩ := hit; exact Heap.lt_size q
    have hlt : i < its.toArray.size := by
      have := (List.getElem?_eq_some_iff.mp hu).1
      simpa using this
    refine wpAny_pyNext_enum_itemD (P := fun i v => its.toArray[i]? = some v) (Draws.tuple (A := X.A.in1) (I.ok.hd hc) it a hai its.toArray) he ⟨hit, isTuple_of p⟩ hlt hne (by simp; exact ⟨hne, hea⟩) fun u' h' tk hPu ho hst' hT hsz hk => ?_
    have hit' := hst'.1
    have euu : u' = u := by
      have q1 : its[i]? = some u' := by simpa using hPu
      rw [hu] at q1
      exact (Option.some.inj q1).symm
    subst euu
    refine ⟨_, rfl, wpAny_letOwnedTupleGo_enum (s := { s with heap := h', toks := tk + 1 }) ho fun h'' he' sb => ?_⟩
    have hT2 : h''.get? s.heap.objs.size = some { cls := .type "tuple", data := .seq #[.int i tk, u'] } := (sb.2 _ (Nat.ne_of_gt hel)).trans hT
    have new : ObjOk X.prog X.w (upd H s.heap.objs.size (.tup [.int (i : Nat), x])) h'' s.heap.objs.size (.tup [.int (i : Nat), x]) :=
      ⟨by show 2 ≤ sizeLine; decide, [.int i tk, u'], .cons ⟨_, rfl⟩ (.cons ru .nil), ⟨_, hT2, rfl, _, rfl⟩⟩
    have I1 : Inv X pins σ (upd H s.heap.objs.size (.tup [.int (i : Nat), x])) { s with heap := h'', toks := tk + 1 } :=
      I.turnedNew (ch := [e, it]) (fun b ob hb q => (sb.2 b (fun z => hb (by simp [z]))).trans (hk b ob (fun z => hb (by simp [z])) (fun z => hb (by simp [z])) q)) hf (Nat.le_refl _) new
    refine ⟨.ref s.heap.objs.size, _, I1, rfl, ⟨_, x, rfl, I.hok.fresh (Nat.le_refl _), rfl, fun ys hy => by rw [I.tuple_inj hy hq]; exact hx⟩, ⟨⟨u', ?_⟩, hit'.at fun o q => (sb.2 it (Ne.symm hne)).trans q, hne, hai, hea⟩, fun b hb => ?_⟩
    · have e1 : ((i + 1 : Nat) : Int) = (i : Int) + 1 := by omega
      rw [e1]; exact he'
    · have hb' : b < s.heap.objs.size := by
        have e' : b = e ∨ b = it := by simpa using hb
        rcases e' with z | z
        · rw [z]; exact hel
        · rw [z]; exact hil
      rw [upd_ne (Nat.ne_of_lt hb')]
      exact (hf b hb).1
  done := by
    intro X hP hw hK hc i pins s σ H E I hf st hg
    subst hP hw hK
    obtain ⟨⟨old, he⟩, hit, hne, hai, hea⟩ := st
    obtain ⟨xs, hq, hx⟩ := hg
    obtain ⟨its, rv, p, hz⟩ := I.tuple hq
    obtain ⟨f0, f1, f2, f3, f4, f5⟩ := hf it (by simp)
    have hl := rv.length
    unfold pyNext
    have hT : s.TypeIs (.ref e) "enumerate" := ⟨_, he, rfl⟩
    refine wpAny_bind (wpAny_attempt (wpAny_callSpecial?_slot (name := Str.ofString "__next__") hT F.slot_enumerate_next
      (wpAny_call_entry F.slot_enumerate_next hT F.entry_enumerate_next ?_ (F.args_enumerate_next_1 _))))
    show wpAny _ _ (field (.ref e) 2 >>= _) _ _ _
    refine wpAny_bind (wpAny_field he rfl (x := .ref it) rfl ?_)
    refine wpAny_bind (wpAny_nextOf_tuple_end (I.ok.hd hc) hit (isTuple_of p) (by simp; omega) fun h' x he' hx' => ?_)
    obtain ⟨o, ho, hc'⟩ := hx'
    refine wpAny_bind (wpAny_isInstance (T := "StopIteration") (b := true) ⟨o, ho, hc'⟩ isSubtype_stop ?_)
    exact wpAny_pure ⟨rfl, I.turned (t' := s.toks) (fun b o hb q => he' b o hb q) f0 f1 f3 f4 f5⟩
  self := fun A i s Q E st h => let ⟨⟨_, he⟩, _⟩ := st; wpAny_pyIter_enum he h
/-- enumerate over a list or a tuple, by what it is -/
def iEnX (K : PySem.W.Frag) (ta : TA) : TI := fun σ H R => ta σ H fun vs H1 => ∃ a, vs = [.ref a] ∧ (((∃ xs, SqL K H1 a xs) ∧ R (Ite K a) H1) ∨ ((∃ xs, SqT K H1 a xs) ∧ R (IteT K a) H1))
theorem pi_enX {X : Cx} {e : Expr} {ta : TA} {p pos tpos : Pos} {elts : List Expr} {kk : Nat} (hg : Gl X "enumerate") (hm : X.mg "enumerate" = none) (ha : PA X [e] ta) (hs : starEach [e] X.env = [(false, eval e X.env)] := by rfl) :
    PI X (.Tuple elts kk tpos) (.Call (.Name "enumerate" p) [e] [] pos) (iEnX X.K ta) := by
  refine ⟨fun pins s σ H R I h => ?_⟩
  refine Call_ (ld_blt I hg hm boot_enumerate (PyProof.Rows.callWith_type1 (thn (ha.run pos pins s σ H _ I h) fun us s1 ⟨vs, H1, I1, r1, q1⟩ => ?_) hs rfl))
  obtain ⟨a, ex, q1⟩ := q1
  subst ex
  cases r1 with
  | cons r rr =>
    cases rr
    cases r
    have fp : ∀ b ∈ [s1.heap.objs.size + 1, s1.heap.objs.size], FpOk X pins H1 b := fun b hb => by
      have e' : b = s1.heap.objs.size + 1 ∨ b = s1.heap.objs.size := by simpa using hb
      have hle : s1.heap.objs.size ≤ b := by
        rcases e' with z | z
        · rw [z]; exact Nat.le_add_right _ _
        · rw [z]; exact Nat.le_refl _
      exact I1.fpOk hle (I1.hok.fresh hle)
    rcases q1 with ⟨⟨xs, hq⟩, q⟩ | ⟨⟨xs, hq⟩, q⟩
    · obtain ⟨its, rv, p', hz⟩ := I1.list hq
      refine call_enumerate_list p'.isList fun h' he hit hsz hk => wpAny_pyIter_enum he ?_
      have I2 : Inv X pins σ H1 { s1 with heap := h' } := I1.kept (t' := s1.toks) hk
      exact ⟨s1.heap.objs.size + 1, [s1.heap.objs.size + 1, s1.heap.objs.size], _, _, H1, rfl, I2, turn_enum a (s1.heap.objs.size + 1) s1.heap.objs.size, ⟨⟨.none, he⟩, hit, Nat.succ_ne_self _⟩, fp, q⟩
    · obtain ⟨its, rv, p', hz⟩ := I1.tuple hq
      have hal : a < s1.heap.objs.size := p'.lt
      refine vs_call_enum (begins_tuple a its.toArray) (isTuple_of p') fun h' he hit hsz hk => wpAny_pyIter_enum he ?_
      have I2 : Inv X pins σ H1 { s1 with heap := h' } := I1.kept (t' := s1.toks) hk
      exact ⟨s1.heap.objs.size + 1, [s1.heap.objs.size + 1, s1.heap.objs.size], _, _, H1, rfl, I2, turn_enumT a (s1.heap.objs.size + 1) s1.heap.objs.size, ⟨⟨.none, he⟩, ⟨_, hit, rfl, rfl⟩, Nat.succ_ne_self _, Nat.ne_of_lt hal, Nat.ne_of_gt (Nat.lt_succ_of_lt hal)⟩, fp, q⟩
def enumL : Nat → List T → List T
  | _, [] => []
  | i, t :: ts => .tup [.int (i : Nat), t] :: enumL (i + 1) ts
theorem enumL_get : ∀ {ts : List T} {k i : Nat} {t : T}, (enumL k ts)[i]? = some t → ∃ u, ts[i]? = some u ∧ t = .tup [.int ((k + i : Nat) : Int), u]
  | [], _, _, _, h => by simp [enumL] at h
  | u :: ts, k, 0, t, h => by
    have e : T.tup [.int (k : Nat), u] = t := Option.some.inj h
    exact ⟨u, rfl, e.symm⟩
  | u :: ts, k, i + 1, t, h => by
    obtain ⟨w, h1, h2⟩ := enumL_get (ts := ts) (k := k + 1) (i := i) (t := t) h
    exact ⟨w, h1, by rw [h2, show k + 1 + i = k + (i + 1) by omega]⟩
theorem enumL_len : ∀ {ts : List T} {k : Nat}, (enumL k ts).length = ts.length
  | [], _ => rfl
  | _ :: ts, k => by
    show (enumL (k + 1) ts).length + 1 = ts.length + 1
    rw [enumL_len]
theorem pair_new {C : KM} {H G : Hp} {T0 : Addr} {i : Nat} {u : T} {v : V} (e : Ex G H) (hT : H T0 = none) (iu : Is C G u v) : ∃ G', Gr H G (upd H T0 (.tup [.int (i : Nat), v])) G' ∧ Is C G' (.tup [.int (i : Nat), u]) (.ref T0) := by
  obtain ⟨a, b⟩ := new_tup (C := C) e hT (IsL.cons (t := .int (i : Nat)) Is.intI (IsL.one iu))
  exact ⟨_, a, b⟩
theorem wk_en {K : PySem.W.Frag} {mg : Str → Option Value} {G : Hp} {a : Addr} {l : List T} {vs : List V} (h : G a = some (.lst vs)) (k : IsL ⟨K, mg⟩ G l vs) : Wk ⟨K, mg⟩ (Ite K a) G (enumL 0 l) where
  go := fun i H e hi => by
    rw [enumL_len] at hi
    obtain ⟨v, hv⟩ : ∃ v, vs[i]? = some v := ⟨_, List.getElem?_eq_getElem (by rw [← k.length]; exact hi)⟩
    exact ⟨vs, v, SqL.of (e _ _ h), hv⟩
  stop := fun H e => ⟨vs, SqL.of (e _ _ h), by rw [enumL_len, k.length]; exact Nat.le_refl _⟩
  yld := fun i H G1 x H' t e1 e ht y => by
    obtain ⟨T0, v, rfl, hT, rfl, q⟩ := y
    obtain ⟨u, hu, rfl⟩ := enumL_get ht
    obtain ⟨w, hw, iw⟩ := k.get hu
    have z := (q vs (SqL.of (e _ _ (e1 _ _ h)))).symm.trans hw
    obtain rfl := Option.some.inj z
    rw [Nat.zero_add]
    exact pair_new e hT (Is.mono e1 _ _ iw)
theorem wk_enT {K : PySem.W.Frag} {mg : Str → Option Value} {G : Hp} {a : Addr} {l : List T} {vs : List V} (h : SqT K G a vs) (k : IsL ⟨K, mg⟩ G l vs) : Wk ⟨K, mg⟩ (IteT K a) G (enumL 0 l) where
  go := fun i H e hi => by
    rw [enumL_len] at hi
    obtain ⟨v, hv⟩ : ∃ v, vs[i]? = some v := ⟨_, List.getElem?_eq_getElem (by rw [← k.length]; exact hi)⟩
    exact ⟨vs, v, ex_t e h, hv⟩
  stop := fun H e => ⟨vs, ex_t e h, by rw [enumL_len, k.length]; exact Nat.le_refl _⟩
  yld := fun i H G1 x H' t e1 e ht y => by
    obtain ⟨T0, v, rfl, hT, rfl, q⟩ := y
    obtain ⟨u, hu, rfl⟩ := enumL_get ht
    obtain ⟨w, hw, iw⟩ := k.get hu
    have z := (q vs (ex_t e (ex_t e1 h))).symm.trans hw
    obtain rfl := Option.some.inj z
    rw [Nat.zero_add]
    exact pair_new e hT (Is.mono e1 _ _ iw)
def iEn (fa : FE) : FI := fun ρ => (fa ρ).bind fun x => match items? x with | some l => .ok (enumL 0 l) | none => .bad
theorem i_en {X : Cx} {B : BS} {W : WX} {e : Expr} {fa : FE} {p pos tpos : Pos} {elts : List Expr} {kk : Nat} (hg : Gl X "enumerate") (hm : X.mg "enumerate" = none) (ha : DE X B W .E e fa) (hs : starEach [e] X.env = [(false, eval e X.env)] := by rfl)
    (he : starEach [e] X.env = (false, eval e X.env) :: starEach [] X.env := by rfl) : DI X B W (.Tuple elts kk tpos) (.Call (.Name "enumerate" p) [e] [] pos) (iEn fa) :=
  PI.imp (pi_enX hg hm (pa_cons ha pa_nil he) hs) fun σ H R ⟨ρ, G, s, p⟩ => bindI (Q1 := fun x H1 => tNil σ H1 fun xs H2 => ∃ a, x :: xs = [.ref a] ∧ (((∃ xs, SqL X.K H2 a xs) ∧ R (Ite X.K a) H2) ∨ ((∃ xs, SqT X.K H2 a xs) ∧ R (IteT X.K a) H2))) s p fun t v H1 G1 g s1 i p1 => by
    cases t with
    | lst l =>
      unfold Is at i
      obtain ⟨a, vs, rfl, h1, h2⟩ := i
      exact ⟨a, rfl, .inl ⟨⟨vs, SqL.of (s1.exGH _ _ h1)⟩, p1 _ H1 G1 (Gr.refl s1.exGH) (wk_en h1 h2)⟩⟩
    | tup l =>
      unfold Is at i
      obtain ⟨a, vs, rfl, h1, h2⟩ := i
      exact ⟨a, rfl, .inr ⟨⟨vs, ex_t s1.exGH h1⟩, p1 _ H1 G1 (Gr.refl s1.exGH) (wk_enT h1 h2)⟩⟩
    | _ => exact p1.elim
end VS

namespace VS
open PySem PySem.Spec PyProof.Rows L2 Evl

/-! ### a def, by its body -/
def fDef (m : Nat) (f : FS) : Mir := fun ts => match f (ts.map Sl.sh ++ List.replicate (m - ts.length) Sl.un) with
  | .rt t => .ok t
  | .nx _ => .ok .non
  | .ex x p _ => .ex x p
  | _ => .bad
theorem start_no {ts : List T} {n : Nat} (i : Nat) (d : D) : (ts.map Sl.sh ++ List.replicate n Sl.un)[i]? ≠ some (.dp d) := fun q => by
  by_cases hi : i < ts.length
  · rw [List.getElem?_append_left (by simpa using hi), List.getElem?_map] at q
    cases e : ts[i]? with
    | none => rw [e] at q; cases q
    | some u => rw [e] at q; cases q
  · rw [List.getElem?_append_right (by simpa using hi), List.getElem?_replicate] at q
    split at q <;> cases q
theorem start_sr {C : KM} {rm : Rm} {w : World} {H G : Hp} {N : List Str} {ts : List T} {vs : List V} (e : Ex G H) (h : IsL C G ts vs) : SR C ⟨H, G, none, rm, w, []⟩ (L2.start N vs) H (ts.map Sl.sh ++ List.replicate (N.length - ts.length) Sl.un) G where
  gr := Gr.refl e
  dp := Dps.no start_no
  sh := fun i t q => by
    by_cases hi : i < ts.length
    · rw [List.getElem?_append_left (by simpa using hi), List.getElem?_map] at q
      cases e : ts[i]? with
      | none => rw [e] at q; cases q
      | some u =>
        rw [e] at q
        cases q
        obtain ⟨v, h1, h2⟩ := h.get e
        refine ⟨v, ?_, h2⟩
        unfold L2.start
        rw [List.getElem?_append_left (by rw [List.length_map, ← h.length]; exact hi), List.getElem?_map, h1]
        rfl
    · rw [List.getElem?_append_right (by simpa using hi), List.getElem?_replicate] at q
      split at q <;> cases q
  ow := fun i t q => by
    by_cases hi : i < ts.length
    · rw [List.getElem?_append_left (by simpa using hi), List.getElem?_map] at q
      cases e : ts[i]? with
      | none => rw [e] at q; cases q
      | some u => rw [e] at q; cases q
    · rw [List.getElem?_append_right (by simpa using hi), List.getElem?_replicate] at q
      split at q <;> cases q
  ds := fun i j t u a _ q _ _ _ => by
    by_cases hi : i < ts.length
    · rw [List.getElem?_append_left (by simpa using hi), List.getElem?_map] at q
      cases e : ts[i]? with
      | none => rw [e] at q; cases q
      | some u => rw [e] at q; cases q
    · rw [List.getElem?_append_right (by simpa using hi), List.getElem?_replicate] at q
      split at q <;> cases q
  len := by
    unfold L2.start
    rw [List.length_append, List.length_append, List.length_map, List.length_map, List.length_replicate, List.length_replicate, h.length]
  xn := fun i x p q => by
    by_cases hi : i < ts.length
    · rw [List.getElem?_append_left (by simpa using hi), List.getElem?_map] at q
      cases e : ts[i]? with
      | none => rw [e] at q; cases q
      | some u => rw [e] at q; cases q
    · rw [List.getElem?_append_right (by simpa using hi), List.getElem?_replicate] at q
      split at q <;> cases q
theorem def_ok {P : Program} {w : World} {K : PySem.W.Frag} {mg : Str → Option Value} {base : Heap} {x qual : Str} {st : Stmt} {f : Addr} {fd : FuncData} {N ps : List Str} {k n : Nat} {fs : FS} (F : Fun K x qual st f fd) (S : FnScope N ps (defScope st)) (hn : n = ps.length)
    (hbody : ∀ (cdv : Value) (A : Around) (outer : List Env) (s : Shared) (H G : Hp) (E : XK), Room k (A.deeper (envOfC qual (defScope st) s.heap.objs.size f cdv)) →
      DSs (cxOf (L2.CX P w) P w K mg base N qual (defScope st) f cdv A outer s H E) ⟨H, G, none, .E, w, []⟩ (fun cls d _ H' => E cls d H') (defBody st) fs) :
    FnOk P w K mg base (L2.CX P w) (k + 1) f fd ps (spD ⟨K, mg⟩ n (fDef N.length fs)) := by
  refine F.okX S (fun vs H Q E h => (spD_len h).trans hn) (fun cdv A outer s H vs Q E hr h => ?_)
  obtain ⟨ts, G, ex, is, hl, p⟩ := h
  refine ⟨_, hbody cdv A outer s H G E hr, _, G, start_sr ex is, ?_⟩
  unfold fDef at p
  cases q : fs (ts.map Sl.sh ++ List.replicate (N.length - ts.length) Sl.un) with
  | nx ρ => rw [q] at p; exact fun σ' H' G' s' _ => p .non H' G' s'.gr Is.nonI
  | rt t => rw [q] at p; exact p
  | bk ρ => rw [q] at p; exact p.elim
  | ct ρ => rw [q] at p; exact p.elim
  | ex x y ρ => rw [q] at p; exact fun cls d σ' H' G' s' _ i => p cls d H' G' s'.gr i
  | bad => rw [q] at p; exact p

/-- a def that answers with a new object, one's own -/
def fDefN (m : Nat) (f : FS) : Mir := fun ts => match f (ts.map Sl.sh ++ List.replicate (m - ts.length) Sl.un) with
  | .rt t => .ok t
  | .ex x p _ => .ex x p
  | _ => .bad
def PostFN (C : KM) (H G : Hp) (r : Res T) (Q : VK) (E : XK) : Prop :=
  match r with
  | .ok t => ∀ v H' G', Gr H G H' G' → Md.Is C .N t v H H' G' → Q v H'
  | .ex x p => ∀ cls d H' G', Gr H G H' G' → XAt C x p cls d G' → E cls d H'
  | .bad => False
def spDN (C : KM) (n : Nat) (f : Mir) : Sp := fun vs H Q E => ∃ ts G, Ex G H ∧ IsL C G ts vs ∧ ts.length = n ∧ PostFN C H G (f ts) Q E
theorem def_okN {P : Program} {w : World} {K : PySem.W.Frag} {mg : Str → Option Value} {base : Heap} {x qual : Str} {st : Stmt} {f : Addr} {fd : FuncData} {N ps : List Str} {k n : Nat} {fs : FS} (F : Fun K x qual st f fd) (S : FnScope N ps (defScope st)) (hn : n = ps.length)
    (hbody : ∀ (cdv : Value) (A : Around) (outer : List Env) (s : Shared) (H G : Hp) (E : XK), Room k (A.deeper (envOfC qual (defScope st) s.heap.objs.size f cdv)) →
      DSs (cxOf (L2.CX P w) P w K mg base N qual (defScope st) f cdv A outer s H E) ⟨H, G, none, .N, w, []⟩ (fun cls d _ H' => E cls d H') (defBody st) fs) :
    FnOk P w K mg base (L2.CX P w) (k + 1) f fd ps (spDN ⟨K, mg⟩ n (fDefN N.length fs)) := by
  refine F.okX S (fun vs H Q E ⟨ts, G, _, h1, h2, _⟩ => by rw [← h1.length]; exact h2.trans hn) (fun cdv A outer s H vs Q E hr h => ?_)
  obtain ⟨ts, G, ex, is, hl, p⟩ := h
  refine ⟨_, hbody cdv A outer s H G E hr, _, G, start_sr ex is, ?_⟩
  unfold fDefN at p
  cases q : fs (ts.map Sl.sh ++ List.replicate (N.length - ts.length) Sl.un) with
  | nx ρ => rw [q] at p; exact p.elim
  | rt t => rw [q] at p; exact p
  | bk ρ => rw [q] at p; exact p.elim
  | ct ρ => rw [q] at p; exact p.elim
  | ex x y ρ => rw [q] at p; exact fun cls d σ' H' G' s' _ i => p cls d H' G' s'.gr i
  | bad => rw [q] at p; exact p

/-! ### a dict display with written text keys -/
def evs : List (Str × FE) → Ev' → Res (List T)
  | [], _ => .ok []
  | (_, f) :: r, ρ => (f ρ).bind fun t => (evs r ρ).bind fun ts => .ok (t :: ts)
def eDisp (l : List (Str × FE)) : FE := fun ρ => (evs l ρ).bind fun ts => if (l.map (·.1)).Nodup ∧ l.length ≤ 15 then .ok (.dic (l.map fun p => .str p.1) ts) else .bad
def DP (X : Cx) (B : BS) (W : WX) (pos : Pos) (keys : List (Option Expr)) (values : List Expr) (l : List (Str × FE)) : Prop := PPs X pos keys values (l.map fun p => (tC (.str p.1), tM (km X) B .E W p.2))
theorem pairs_of {C : KM} {B : BS} {W : WX} {σ : L2.St} {ρ : Ev'} : ∀ {l : List (Str × FE)} {H G : Hp} {Q : List (V × V) → Hp → Prop}, SR C B σ H ρ G → PostA C .E W σ H G (evs l ρ) (fun vs H' => Q ((l.map fun p => V.str p.1).zip vs) H') →
    tPairs (l.map fun p => (tC (.str p.1), tM C B .E W p.2)) σ H Q
  | [], H, G, Q, s, p => p [] H G (Gr.refl s.exGH) (show VS.IsL C G [] [] from IsL.nil)
  | (k, f) :: r, H, G, Q, s, p => by
    show tM C B .E W f σ H fun y H2 => tPairs (r.map fun p => (tC (.str p.1), tM C B .E W p.2)) σ H2 fun ps H3 => Q ((.str k, y) :: ps) H3
    refine ⟨ρ, G, s, ?_⟩
    unfold evs at p
    cases e : f ρ with
    | ok t =>
      rw [e] at p
      intro v H1 G1 g1 i1
      have p1 : PostA C .E W σ H G ((evs r ρ).bind fun ts => .ok (t :: ts)) (fun vs H' => Q ((((k, f) :: r).map fun p => V.str p.1).zip vs) H') := p
      refine pairs_of (s.ext g1) ?_
      cases er : evs r ρ with
      | ok ts =>
        rw [er] at p1
        exact fun vs H2 G2 g2 i2 => p1 (v :: vs) H2 G2 (g1.trans g2) (IsL.cons (Is.mono g2.eg _ _ i1) i2)
      | ex x q =>
        rw [er] at p1
        exact fun cls d H2 G2 g2 i2 => p1 cls d H2 G2 (g1.trans g2) i2
      | bad =>
        rw [er] at p1
        exact p1
    | ex x q =>
      rw [e] at p
      exact p
    | bad =>
      rw [e] at p
      exact p
theorem merge_nodup : ∀ {more acc : List (Key × V)}, (more.map (·.1)).Nodup → (∀ p ∈ more, valV acc p.1 = none) → mergeK acc more = acc ++ more
  | [], acc, _, _ => by simp [mergeK]
  | p :: r, acc, hn, h => by
    have hn' := List.nodup_cons.mp (by simpa only [List.map_cons] using hn)
    show mergeK (putK acc p.1 p.2) r = _
    rw [putK_new p.2 (h p (List.mem_cons_self))]
    rw [merge_nodup hn'.2 fun q hq => ?_, List.append_assoc]
    · rfl
    · rw [valV_snoc _ _ _ _ (h p (List.mem_cons_self)), if_neg]
      · exact h q (List.mem_cons_of_mem _ hq)
      · intro e
        exact hn'.1 (by rw [← e]; exact List.mem_map_of_mem hq)
theorem zip_keys : ∀ (l : List (Str × FE)) (vs : List V), (l.map fun p => V.str p.1).zip vs = ((l.map fun p => (Sum.inr p.1 : Key)).zip vs).map fun kv => (kV kv.1, kv.2)
  | [], _ => rfl
  | _ :: _, [] => rfl
  | p :: l, v :: vs => by
    show (V.str p.1, v) :: (l.map fun p => V.str p.1).zip vs = (V.str p.1, v) :: ((l.map fun p => (Sum.inr p.1 : Key)).zip vs).map fun kv => (kV kv.1, kv.2)
    rw [zip_keys l vs]
section
variable {X : Cx} {B : BS} {W : WX} {m : Md} {a b e v : Expr} {fa fb f : FE} {pos p2 : Pos} {keys ks : List (Option Expr)} {values vs : List Expr} {l : List (Str × FE)}
theorem p_nil : DP X B W pos [] [] [] := pps_nil
theorem p_cons {k : Str} {j : Nat} (hv : DE X B W .E v f) (hr : DP X B W pos ks vs l) : DP X B W pos (some (.Constant (.str k) j p2) :: ks) (v :: vs) ((k, f) :: l) := pps_cons pe_str hv hr
theorem keys_str {G : Hp} {C : KM} : ∀ (l : List Str), IsL C G (l.map T.str) (l.map V.str)
  | [] => IsL.nil
  | x :: r => IsL.cons Is.strI (keys_str r)
theorem d_disp (h : DP X B W pos keys values l) (hall : keys.all (·.isSome) = true) (hl : keys.length = values.length) (h0 : keys ≠ []) (h15 : keys.length ≤ 15) : DE X B W .N (.Dict keys values pos) (eDisp l) :=
  PE.imp (pe_disp h hall hl h0 h15) fun σ H Q ⟨ρ, G, s, p⟩ => fun d hd => by
    have sb : SR (km X) B σ (upd H d (.dK [])) ρ G := s.beside (fresh_back s.gr.eh hd) (ex_none s.exGH hd) (fun i t q ea => by
      obtain ⟨a, o, q1, _, q3, _⟩ := s.ow i t q
      rw [q1] at ea
      cases ea
      rw [hd] at q3
      cases q3) (s.dpFree (Gr.refl s.exGH) hd)
    refine pairs_of sb ?_
    unfold eDisp at p
    cases e : evs l ρ with
    | ok ts =>
      rw [e] at p
      have p1 : Post (km X) .N W σ H G (if (l.map (·.1)).Nodup ∧ l.length ≤ 15 then .ok (.dic (l.map fun p => .str p.1) ts) else .bad) Q := p
      split at p1
      · rename_i hc
        intro vs H2 G2 g2 i2
        have hl2 : ts.length = l.length := by
          have : ∀ (l : List (Str × FE)) (ts : List T), evs l ρ = .ok ts → ts.length = l.length := by
            intro l
            induction l with
            | nil => intro ts q; cases q; rfl
            | cons a r ih =>
              intro ts q
              unfold evs at q
              cases ea : a.2 ρ with
              | ok t =>
                rw [ea] at q
                cases er : evs r ρ with
                | ok us =>
                  have q' : ((evs r ρ).bind fun ts => Res.ok (t :: ts)) = .ok ts := q
                  rw [er] at q'
                  cases q'
                  show us.length + 1 = r.length + 1
                  rw [ih us er]
                | ex x y =>
                  have q' : ((evs r ρ).bind fun ts => Res.ok (t :: ts)) = .ok ts := q
                  rw [er] at q'
                  cases q'
                | bad =>
                  have q' : ((evs r ρ).bind fun ts => Res.ok (t :: ts)) = .ok ts := q
                  rw [er] at q'
                  cases q'
              | ex x y => rw [ea] at q; cases q
              | bad => rw [ea] at q; cases q
          exact this l ts e
        have hvs : vs.length = l.length := by rw [← IsL.length i2]; exact hl2
        refine ⟨g2.eh _ _ upd_same, (l.map fun p => (Sum.inr p.1 : Key)).zip vs, ?_, ?_, ?_⟩
        · exact zip_keys l vs
        · rw [List.length_zip, List.length_map]
          omega
        · have nd : (((l.map fun p => (Sum.inr p.1 : Key)).zip vs).map (·.1)) = l.map fun p => (Sum.inr p.1 : Key) := List.map_fst_zip (by rw [List.length_map]; omega)
          have hnd : (l.map fun p => (Sum.inr p.1 : Key)).Nodup := by
            have : (l.map fun p => (Sum.inr p.1 : Key)) = (l.map (·.1)).map (fun x => (Sum.inr x : Key)) := by rw [List.map_map]; rfl
            rw [this]
            exact List.Pairwise.map _ (fun a b h q => h (Sum.inr.inj q)) hc.1
          rw [merge_nodup (by rw [nd]; exact hnd) (fun _ _ => rfl), List.nil_append]
          have hGd : G2 d = none := g2.sep _ _ (ex_none s.exGH hd) upd_same
          have gg : Gr H G (upd H2 d (.dK ((l.map fun p => (Sum.inr p.1 : Key)).zip vs))) G2 :=
            ⟨Ex.mut ((Ex.new hd).trans g2.eh) hd, g2.eg, Ex.mut g2.gh hGd, fun x o q1 q2 => g2.sep x o q1 (Ex.new hd _ _ q2)⟩
          refine p1 _ _ G2 gg ⟨d, _, rfl, hd, upd_same, hGd, _, rfl, ?_, ?_⟩
          · have e1 : (((l.map fun p => (Sum.inr p.1 : Key)).zip vs).map fun p => kV p.1) = (l.map (·.1)).map V.str := by
              rw [show (fun p : Key × V => kV p.1) = kV ∘ (fun p : Key × V => p.1) from rfl, ← List.map_map, nd, List.map_map, List.map_map]
              rfl
            have e2 : (l.map fun p => T.str p.1) = (l.map (·.1)).map T.str := by rw [List.map_map]; rfl
            rw [e1, e2]
            exact keys_str _
          · rw [List.map_snd_zip (by rw [List.length_map]; omega)]
            exact i2
      · exact p1.elim
    | ex x q =>
      rw [e] at p
      exact fun cls dd H2 G2 g2 i2 => p cls dd H2 G2 ⟨(Ex.new hd).trans g2.eh, g2.eg, g2.gh, fun x o q1 q2 => g2.sep x o q1 (Ex.new hd _ _ q2)⟩ i2
    | bad =>
      rw [e] at p
      exact p.elim
end
end VS

namespace VS
open PySem PySem.Spec PyProof.Rows L2 Evl

/-! ### d[k] of a dict of one's own making -/
def keyEq : T → T → Bool
  | .int i, .int j => i == j
  | .str a, .str b => a == b
  | _, _ => false
def lookT : List T → List T → T → Option T
  | k :: ks, w :: ws, x => if keyEq k x then some w else lookT ks ws x
  | _, _, _ => none
def isKey : T → Bool
  | .int _ => true
  | .str _ => true
  | _ => false
def gDGet (x y : T) : Option T :=
  match x with
  | .dic ks ws => if isKey y && ks.all isKey then lookT ks ws y else none
  | _ => none
theorem Is.str1 {C : KM} {G : Hp} {i : Str} {v : V} (h : Is C G (.str i) v) : v = .str i := by unfold Is at h; exact h
section
variable {C : KM} {G H : Hp}
theorem key_of {y : T} {v : V} (h : isKey y = true) (i : IsS C H G y v) : ∃ k : Key, v = kV k := by
  cases y with
  | int n => exact ⟨.inl n, i.int⟩
  | str n => exact ⟨.inr n, i.str⟩
  | _ => cases h
theorem keyEq_of {x y : T} {k j : Key} (hx : isKey x = true) (hy : isKey y = true) (h : Is C G x (kV k)) (h' : IsS C H G y (kV j)) : keyEq x y = decide (k = j) := by
  cases y with
  | int n =>
    have e := h'.int
    cases j with
    | inl m =>
      have e' : m = n := V.int.inj e
      subst e'
      cases x with
      | int i =>
        have h := Is.int1 h
        cases k with
        | inl p =>
          have e2 : p = i := V.int.inj h
          subst e2
          rw [key_ll]
          rfl
        | inr p => cases h
      | str i =>
        have h := Is.str1 h
        cases k with
        | inl p => cases h
        | inr p =>
          rw [key_rl]
          rfl
      | _ => cases hx
    | inr m => cases e
  | str n =>
    have e := h'.str
    cases j with
    | inr m =>
      have e' : m = n := V.str.inj e
      subst e'
      cases x with
      | int i =>
        have h := Is.int1 h
        cases k with
        | inl p =>
          rw [key_lr]
          rfl
        | inr p => cases h
      | str i =>
        have h := Is.str1 h
        cases k with
        | inl p => cases h
        | inr p =>
          have e2 : p = i := V.str.inj h
          subst e2
          rw [key_rr]
          show (p == m) = _
          exact Bool.beq_eq_decide_eq p m
      | _ => cases hx
    | inl m => cases e
  | _ => cases hy
theorem look_of {y : T} {j : Key} (hy : isKey y = true) (h' : IsS C H G y (kV j)) : ∀ {ks ws : List T} {kvs : List (Key × V)} {t : T}, ks.all isKey = true → IsL C G ks (kvs.map fun p => kV p.1) → IsL C G ws (kvs.map fun p => p.2) → lookT ks ws y = some t → ∃ v, valV kvs j = some v ∧ Is C G t v
  | [], _, _, _, _, _, _, e => by simp [lookT] at e
  | _ :: _, [], _, _, _, _, _, e => by simp [lookT] at e
  | k :: ks, w :: ws, kvs, t, ha, hk, hw, e => by
    have ha' := Bool.and_eq_true_iff.mp (by simpa only [List.all_cons] using ha)
    cases kvs with
    | nil =>
      unfold IsL at hk
      obtain ⟨_, _, z, _⟩ := hk
      cases z
    | cons p r =>
      unfold IsL at hk hw
      obtain ⟨v1, r1, e1, k1, k2⟩ := hk
      obtain ⟨v2, r2, e2, w1, w2⟩ := hw
      obtain ⟨rfl, rfl⟩ := List.cons.inj e1
      obtain ⟨rfl, rfl⟩ := List.cons.inj e2
      have q := keyEq_of ha'.1 hy k1 h'
      unfold lookT at e
      by_cases c : p.1 = j
      · rw [q, decide_eq_true c] at e
        have e3 : w = t := Option.some.inj e
        subst e3
        exact ⟨p.2, valV_pos c, w1⟩
      · rw [q, decide_eq_false c] at e
        rw [valV_neg c]
        exact look_of hy h' ha'.2 k2 w2 e
end
section
variable {X : Cx} {B : BS} {W : WX} {m : Md} {a b e : Expr} {fa fb f : FE} {pos p p2 : Pos}
theorem d_dget (hu : X.A.units + 1 < cLine) (ha : DE X B W .S a fa) (hb : DE X B W .S b fb) (hs : NoSl b := by exact fun _ _ => rfl) : DE X B W .E (.Subscript a b pos) (eB gDGet fa fb) :=
  PE.imp (pe_dget hu ha hb hs) fun σ H Q ⟨ρ, G, s, p⟩ => bindS s p fun x v H1 G1 g1 s1 i1 p1 => bindS s1 p1 fun y u H2 G2 g2 s2 i2 p2 => by
    obtain ⟨t, e, q⟩ := p2.of
    cases x with
    | dic ks ws =>
      simp only [gDGet] at e
      split at e
      · rename_i c
        have c' := Bool.and_eq_true_iff.mp c
        obtain ⟨ad, kvs, rfl, h1, h2, h3⟩ := (i1.mono g2).dic s2.exGH
        obtain ⟨j, rfl⟩ := key_of c'.1 i2
        obtain ⟨w, e1, e2⟩ := look_of c'.1 i2 c'.2 h2 h3 e
        exact ⟨ad, w, rfl, by rw [← e1]; exact DGet.k h1, qE q s2.exGH e2⟩
      · cases e
    | _ => cases e

/-! ### a written dict with text keys -/
/-- the global x is a written dict: tbl its entries, miss: texts that are no keys of it -/
structure GDic (C : KM) (w : World) (x : Str) (d : Addr) (tbl : List (Str × T)) (miss : List Str) : Prop where
  gl : C.mg x = some (.ref d)
  kd : ∃ es n, KDict C.K w d es n
  hit : ∀ z t, tbl.lookup z = some t → ∃ u v, PySem.W.nsIn C.K d z = some (some u) ∧ RelV v u ∧ ∀ G, Is C G t v
  no : ∀ z, z ∈ miss → PySem.W.nsIn C.K d z = some none
def gGIn (neg : Bool) (tbl : List (Str × T)) (miss : List Str) (x : T) : Option T :=
  match x with
  | .str z => if z ∈ miss then some (.bl neg) else if (tbl.lookup z).isSome then some (.bl (!neg)) else none
  | _ => none
def gGGet (tbl : List (Str × T)) (x : T) : Option T :=
  match x with
  | .str z => tbl.lookup z
  | _ => none
theorem d_gget {x : Str} {d : Addr} {tbl : List (Str × T)} {miss : List Str} (D : GDic (km X) X.w x d tbl miss) (hg : Gl X x) (hb : DE X B W .S b fb) (hdb : (x == ("__debug__" : Str)) = false := by decide) (hs : PlainIx b := by exact fun _ _ => rfl) :
    DE X B W .E (.Subscript (.Name x p) b pos) (eU (gGGet tbl) fb) :=
  PE.imp (pe_ix ix_kdict (pe_glob (v := .ref d) hg D.gl rfl hdb) hb hs) fun σ H Q ⟨ρ, G, s, q⟩ => bindS s q fun y u H1 G1 g1 s1 i1 p1 => by
    obtain ⟨t, e, q1⟩ := p1.of
    cases y with
    | str z =>
      obtain ⟨w, v, h1, h2, h3⟩ := D.hit z t e
      obtain ⟨es, n, kd⟩ := D.kd
      exact ⟨d, z, v, rfl, i1.str, ⟨es, n, w, kd.at_, kd.lit, h1, h2⟩, qE q1 s1.exGH (h3 G1)⟩
    | _ => cases e
theorem gin_of {neg : Bool} {tbl : List (Str × T)} {miss : List Str} {C : KM} {w : World} {x : Str} {d : Addr} (D : GDic C w x d tbl miss) {y t : T} (e : gGIn neg tbl miss y = some t) : ∃ z r, y = .str z ∧ PySem.W.nsIn C.K d z = some r ∧ t = .bl (if neg then !r.isSome else r.isSome) := by
  cases y with
  | str z =>
    simp only [gGIn] at e
    split at e
    · rename_i c
      obtain rfl := Option.some.inj e
      exact ⟨z, none, rfl, D.no z c, by cases neg <;> rfl⟩
    · split at e
      · rename_i c
        obtain ⟨u, hu⟩ := Option.isSome_iff_exists.mp c
        obtain ⟨w, v, h1, h2, h3⟩ := D.hit z u hu
        obtain rfl := Option.some.inj e
        exact ⟨z, some w, rfl, h1, by cases neg <;> rfl⟩
      · cases e
  | _ => cases e
theorem d_gnin {x : Str} {d : Addr} {tbl : List (Str × T)} {miss : List Str} (D : GDic (km X) X.w x d tbl miss) (hg : Gl X x) (ha : DE X B W .S a fa) (hm : behindInMarks .NotIn (.Name x p) = false) (hdb : (x == ("__debug__" : Str)) = false := by decide) :
    DE X B W .E (.Compare a [.NotIn] [.Name x p] pos) (eU (gGIn true tbl miss) fa) := by
  obtain ⟨es, n, kd⟩ := D.kd
  exact PE.imp (pe_cmpR (op_notIn_kd kd) ha (pe_glob (v := .ref d) hg D.gl rfl hdb) hm) fun σ H Q ⟨ρ, G, s, q⟩ => bindS s q fun y u H1 G1 g1 s1 i1 p1 => by
    obtain ⟨t, e, q1⟩ := p1.of
    obtain ⟨z, r, rfl, h1, rfl⟩ := gin_of D e
    exact ⟨z, r, i1.str, rfl, h1, qE q1 s1.exGH Is.blI⟩
theorem t_gnin {x : Str} {d : Addr} {tbl : List (Str × T)} {miss : List Str} (D : GDic (km X) X.w x d tbl miss) (hg : Gl X x) (ha : DE X B W .S a fa) (hm : behindInMarks .NotIn (.Name x p) = false) (hdb : (x == ("__debug__" : Str)) = false := by decide) :
    DT X B W (.Compare a [.NotIn] [.Name x p] pos) (eU (gGIn true tbl miss) fa) := by
  obtain ⟨es, n, kd⟩ := D.kd
  exact PT.imp (pt_cmpR (op_notIn_kd kd) ha (pe_glob (v := .ref d) hg D.gl rfl hdb) hm) fun σ H Q ⟨ρ, G, s, q⟩ => bindS (m := .E) s (q.post (.inl rfl)) fun y u H1 G1 g1 s1 i1 p1 => by
    obtain ⟨t, e, q1⟩ := p1.of
    obtain ⟨z, r, rfl, h1, rfl⟩ := gin_of D e
    exact ⟨z, r, i1.str, rfl, h1, qE q1 s1.exGH Is.blI⟩
theorem d_gin {x : Str} {d : Addr} {tbl : List (Str × T)} {miss : List Str} (D : GDic (km X) X.w x d tbl miss) (hg : Gl X x) (ha : DE X B W .S a fa) (hm : behindInMarks .In (.Name x p) = false) (hdb : (x == ("__debug__" : Str)) = false := by decide) :
    DE X B W .E (.Compare a [.In] [.Name x p] pos) (eU (gGIn false tbl miss) fa) := by
  obtain ⟨es, n, kd⟩ := D.kd
  exact PE.imp (pe_cmpR (op_in_kd kd) ha (pe_glob (v := .ref d) hg D.gl rfl hdb) hm) fun σ H Q ⟨ρ, G, s, q⟩ => bindS s q fun y u H1 G1 g1 s1 i1 p1 => by
    obtain ⟨t, e, q1⟩ := p1.of
    obtain ⟨z, r, rfl, h1, rfl⟩ := gin_of D e
    exact ⟨z, r, i1.str, rfl, h1, qE q1 s1.exGH Is.blI⟩

/-! ### a def that a value names -/
def eCallV (tbl : Str → Option (Nat × Mir)) (ff : FE) (fa : FA) : FE := fun ρ => (ff ρ).bind fun x => match x with
  | .fn x => (match tbl x with
    | some (n, g) => eCall n g fa ρ
    | none => .bad)
  | _ => .bad
theorem d_callV {tbl : Str → Option (Nat × Mir)} {fe : Expr} {ff : FE} {es : List Expr} {fr : FA}
    (hF : ∀ x n g, tbl x = some (n, g) → ∃ (f : Addr) (fd : FuncData) (ps : List Str) (k : Nat), X.mg x = some (.ref f) ∧ PySem.W.keepIn X.K (.ref f) = true ∧ FnOk X.prog X.w X.K X.mg X.base (L2.CX X.prog X.w) k f fd ps (spD (km X) n g) ∧ Binds X.K fd ps [] ∧ Room k X.A)
    (hv : DE X B W .E fe ff) (tk : Tk X W) (ha : DA X B W .E (e :: es) fr) (he : starEach (e :: es) X.env = (false, eval e X.env) :: starEach es X.env := by rfl) (hpl : (backTo pos (starEach es X.env)).any (·.1) = false := by rfl)
    (hc : eval (.Call fe (e :: es) [] pos) X.env = (do callWith pos (← eval fe X.env) [] (backTo pos (starEach (e :: es) X.env)) (backToKw pos (keywordEach [] X.env))) := by rfl) :
    DE X B W .E (.Call fe (e :: es) [] pos) (eCallV tbl ff fr) := by
  refine ⟨fun pins s σ H Q I ⟨ρ, G, sr, p⟩ => ?_⟩
  refine Call_ (thn (hv.run pins s σ H (fun v H1 => ∃ x n g G1, tbl x = some (n, g) ∧ SR (km X) B σ H1 ρ G1 ∧ Is (km X) G1 (.fn x) v ∧ Post (km X) .E W σ H1 G1 (eCall n g fr ρ) Q) I
    (bindE sr p fun t v H1 G1 g s1 i p1 => ?_)) fun u s1 ⟨v, H1, I1, r1, x, n, g, G1, et, sr1, iv, p1⟩ => ?_) hc
  · cases t with
    | fn x =>
      cases et : tbl x with
      | some w =>
        obtain ⟨n, g⟩ := w
        have p2 : Post (km X) .E W σ H1 G1 (match tbl x with | some (n, g) => eCall n g fr ρ | none => .bad) Q := p1
        rw [et] at p2
        exact ⟨x, n, g, G1, et, s1, i, p2⟩
      | none =>
        have p2 : Post (km X) .E W σ H1 G1 (match tbl x with | some (n, g) => eCall n g fr ρ | none => .bad) Q := p1
        rw [et] at p2
        exact p2.elim
    | _ => exact p1.elim
  · unfold Is at iv
    obtain ⟨u', hm, r2⟩ := iv
    obtain ⟨f, fd, ps, k, hm2, hk, F, hb, hr⟩ := hF x n g et
    have hm3 : X.mg x = some u' := hm
    rw [hm2] at hm3
    obtain rfl := Option.some.inj hm3
    have ev : v = .ref f := by
      cases v <;> first | (cases (show Value.ref f = Value.ref _ from r2); rfl) | (obtain ⟨t, z⟩ := r2; cases z) | (cases r2)
    subst ev
    obtain rfl : u = Value.ref f := r1
    refine PySem.W.callWith_K (h₀ := X.base) I1.ok.mod.kin hk (thn (ha.run pos pins s1 σ H1 (fun vs H2 => spD (km X) n g vs H2 Q (WE W σ)) I1 (bindA sr1 p1 .E fun ts vs H2 G2 gr s2 i p2 => ?_)) fun us s2 ⟨vs, H2, I2, r, q⟩ => ⟨I2.kIn, run_fnS (E := WE W) F hr hb (tk σ) I2 r q⟩) he hpl
    split at p2
    · rename_i hl
      refine ⟨ts, G2, s2.exGH, i, hl, ?_⟩
      cases r : g ts with
      | ok t => rw [r] at p2; exact p2
      | ex x q => rw [r] at p2; exact p2
      | bad => rw [r] at p2; exact p2.elim
    · exact p2.elim
end

/-! ### try: body; except C as n: suite -/
def noXn (ρ : Ev') : Bool := ρ.all fun x => match x with | .xn _ _ => false | _ => true
def unX (i : Nat) (ρ : Ev') (k : Ev' → Out) : Out := if noXn (ρ.set i .un) then k (ρ.set i .un) else .bad
def sTry (sub : Str → Option Bool) (i : Nat) (fb fs : FS) : FS := fun ρ => match fb ρ with
  | .ex x p ρ1 => (match sub x with
    | some true => (match fs (ρ1.set i (.xn x p)) with
      | .nx ρ2 => unX i ρ2 .nx
      | .bk ρ2 => unX i ρ2 .bk
      | .ct ρ2 => unX i ρ2 .ct
      | .rt t => .rt t
      | _ => .bad)
    | some false => .ex x p ρ1
    | none => .bad)
  | o => o
theorem noXn_at {ρ : Ev'} (h : noXn ρ = true) {i : Nat} {x : Str} {p : List T} : ρ[i]? ≠ some (.xn x p) := fun e => by
  have z := List.all_eq_true.mp h _ (List.mem_of_getElem? e)
  cases z
section
variable {rm : Rm} {bi : List (Nat × Addr)} {X : Cx} {H0 G0 : Hp} {w0 : World} {W : WX} {x n : Str} {c : Value} {i : Nat} {body suite : List Stmt} {b₀ : Stmt} {np pos pos' : Pos} {fb fs : FS} {sub : Str → Option Bool}
theorem SR.toSu {C : KM} {σ : L2.St} {H G : Hp} {ρ : Ev'} (xa : Option (Addr × Value × Option Addr)) (s : SR C ⟨H0, G0, none, rm, w0, bi⟩ σ H ρ G) : SR C ⟨H0, G0, xa, rm, w0, bi⟩ σ H ρ G :=
  ⟨s.gr, s.sh, s.ow, s.ds, s.len, fun i x p e => (by obtain ⟨_, _, _, z, _⟩ := s.xn i x p e; cases z), s.dp⟩
theorem SR.ofSu {C : KM} {σ : L2.St} {H G : Hp} {ρ : Ev'} {xa : Option (Addr × Value × Option Addr)} (s : SR C ⟨H0, G0, xa, rm, w0, bi⟩ σ H ρ G) (i : Nat) (h : noXn (ρ.set i .un) = true) : SR C ⟨H0, G0, none, rm, w0, bi⟩ (σ.set i none) H (ρ.set i .un) G := by
  have z := s.setUn (i := i)
  exact ⟨z.gr, z.sh, z.ow, z.ds, z.len, fun j x p e => (noXn_at h e).elim, z.dp⟩
theorem st_try (hs : X.stack = X.env :: X.outer) (hf : X.env.frame = some X.env.locals) (hN : X.N.Nodup) (hi : X.N[i]? = some n) (hln : X.env.kindOf n = some .local) (hc : Names X x c) (tk : Takes X W)
    (hex : ∀ y b D, sub y = some b → X.mg y = some (.ref D) → PySem.W.exmOne X.K (.ref D) c = some b)
    (hb : ∀ (W' : WX) (pn : List (Addr × Obj)) (xe : Value → Shared → Prop), Takes (X.tr pn xe) W' → PassesOwn (model X.prog X.w) X.A X.env xe → DSs (X.tr pn xe) ⟨H0, G0, none, rm, w0, bi⟩ W' body fb)
    (hsu : ∀ (a : Addr) (oe : Obj) (cls : Value) (d : Option Addr) (pn : List (Addr × Obj)), Zc cls d oe → (∃ vs, oe.data = .fields vs) → DSs (X.suite a ((a, oe) :: pn)) ⟨H0, G0, some (a, cls, d), rm, w0, bi⟩ W0 (b₀ :: suite) fs) :
    DS X ⟨H0, G0, none, rm, w0, bi⟩ W (.Try body [.ExceptHandler (some (.Name x np)) (some n) (b₀ :: suite) pos'] [] [] pos) (sTry sub i fb fs) :=
  PS.imp (ps_try_as (i := i) (tb := fun W' => tS (km X) ⟨H0, G0, none, rm, w0, bi⟩ W' fb) (ts := fun a cls d => tS (km X) ⟨H0, G0, some (a, cls, d), rm, w0, bi⟩ W0 fs) hs hf hN hi hln hc tk hb hsu) fun D σ H ⟨ρ, G, s, p⟩ => by
    refine ⟨ρ, G, s, ?_⟩
    unfold sTry at p
    cases e : fb ρ with
    | ex y q ρ1 =>
      simp only [e] at p
      intro cls d σ' H' G' s' k xa
      cases es : sub y with
      | none =>
        simp only [es] at p
        exact p.elim
      | some b =>
        have xa' := xa
        obtain ⟨D0, h1, h2, h3⟩ := xa
        subst h2
        refine ⟨b, hex y b D0 es h1, fun hb2 a ha => ?_, fun hb2 => ?_⟩
        · subst hb2
          simp only [es] at p
          refine ⟨ρ1.set i (.xn y q), G', (s'.toSu (some (a, .ref D0, d))).set (fun u e => by cases e) (fun u e => by cases e) (fun y' q' e => by cases e; exact ⟨a, .ref D0, d, rfl, rfl, xa'⟩) (fun d e => by cases e) (fun t a e => by cases e), ?_⟩
          cases ef : fs (ρ1.set i (.xn y q)) with
          | nx ρ2 =>
            simp only [ef, unX] at p
            split at p
            · rename_i hn
              exact fun σ2 H2 G2 s2 k2 => p _ H2 G2 (s2.ofSu i hn) (k.trans k2)
            · exact p.elim
          | bk ρ2 =>
            simp only [ef, unX] at p
            split at p
            · rename_i hn
              exact fun σ2 H2 G2 s2 k2 => p _ H2 G2 (s2.ofSu i hn) (k.trans k2)
            · exact p.elim
          | ct ρ2 =>
            simp only [ef, unX] at p
            split at p
            · rename_i hn
              exact fun σ2 H2 G2 s2 k2 => p _ H2 G2 (s2.ofSu i hn) (k.trans k2)
            · exact p.elim
          | rt t =>
            simp only [ef] at p
            exact p
          | ex _ _ _ =>
            simp only [ef] at p
            exact p.elim
          | bad =>
            simp only [ef] at p
            exact p.elim
        · subst hb2
          simp only [es] at p
          exact p (.ref D0) d σ' H' G' s' k xa'
    | nx ρ1 => simp only [e] at p; exact p
    | bk ρ1 => simp only [e] at p; exact p
    | ct ρ1 => simp only [e] at p; exact p
    | rt t => simp only [e] at p; exact p
    | bad => simp only [e] at p; exact p
end

/-! ### isinstance(e, C), e what the suite holds -/
def eIsE (i : Nat) (sub : Str → Option Bool) : FE := fun ρ => match ρ[i]? with
  | some (.xn x []) => (match sub x with | some b => .ok (.bl b) | none => .bad)
  | _ => .bad
section
variable {rm : Rm} {bi : List (Nat × Addr)} {X : Cx} {H0 G0 : Hp} {w0 : World} {a : Addr} {oe : Obj} {cls : Value} {d : Option Addr} {pn : List (Addr × Obj)} {i : Nat} {n : Str} {pe p pos pc : Pos} {sub : Str → Option Bool}
/-- isinstance(e, (c1, c2, ..)) -/
def rIsEs (K : PySem.W.Frag) (D a : Addr) : List V → Hp → VK → Prop := fun xs H Q => ∃ (tp : Addr) (cs : List V) (us : List Value) (b : Bool), xs = [.ref a, .ref tp] ∧ H tp = some (.tup cs) ∧ Paired ClsV cs us ∧ PySem.W.kitAny K (.ref D) us = some b ∧ Q (.bl b) H
theorem call_isEs {D : Addr} (C : ExcC X.K D) (hz : Zc (.ref D) none oe) (hf : ∃ vs, oe.data = .fields vs) : CallR (X.suite a ((a, oe) :: pn)) (.builtin "isinstance") (rIsEs X.K D a) := by
  intro pins s σ H xs us Q I r h
  obtain ⟨tp, cs, ws, b, rfl, hT, k, e, q⟩ := h
  obtain ⟨u1, u2, rfl, r1, r2⟩ := vals2 r
  cases (show u1 = Value.ref a from r1)
  cases (show u2 = Value.ref tp from r2)
  obtain ⟨hget, _⟩ := I.pin (a, oe) (List.mem_append.mpr (.inl List.mem_cons_self))
  obtain ⟨vs, hv⟩ := hf
  have J : PySem.W.InstAt s.heap a oe D none := by
    obtain ⟨oc, od, oda, osl⟩ := oe
    obtain ⟨h1, h2⟩ := hz
    dsimp only at h1 h2 hv
    subst h1 h2 hv
    exact ⟨hget, rfl, rfl, trivial⟩
  obtain ⟨_, its, rv, o, h1, h2, n, h3⟩ := (show ObjOk X.prog X.w H s.heap tp (.tup cs) from I.hok tp _ hT)
  have e3 := ClsV.all k rv
  subst e3
  obtain ⟨oc, od, dt, sl⟩ := o
  simp only at h2 h3
  subst h2 h3
  exact PySem.W.kia_tup (PySem.W.handS_kitx_exc C.hg C.hk C.hs C.hd C.ha C.hn C.ht C.hm) I.kIn J h1 e (fun z => nomatch z) fun tk => ⟨.bl b, H, I.tok tk, rfl, q⟩
theorem d_isE {e2 : Expr} {c : V} {cv : Value} (hz : Zc cls d oe) (hf : ∃ vs, oe.data = .fields vs) (hN : X.N[i]? = some n) (hv : Vis X.env.scope n) (hg : Gl X "isinstance") (hm : X.mg "isinstance" = none)
    (h2 : PE (X.suite a ((a, oe) :: pn)) e2 (tC c)) (hcv : ∀ u, RelV c u → u = cv) (hF : ∀ y b D, sub y = some b → X.mg y = some (.ref D) → ExcC X.K D ∧ PySem.W.kitOne X.K (.ref D) cv = some b)
    (hd1 : (n == ("__debug__" : Str)) = false := by decide) (hd2 : (n == ("__classdict__" : Str)) = false := by decide)
    (hb : bootBuiltins "isinstance" = some (.builtin "isinstance") := by decide +kernel) (he : starEach [.Name n pe, e2] X.env = (false, eval (.Name n pe) X.env) :: starEach [e2] X.env := by rfl) (he2 : starEach [e2] X.env = (false, eval e2 X.env) :: starEach [] X.env := by rfl) (hpl : (backTo pos (starEach [e2] X.env)).any (·.1) = false := by rfl) :
    DE (X.suite a ((a, oe) :: pn)) ⟨H0, G0, some (a, cls, d), rm, w0, bi⟩ W0 .E (.Call (.Name "isinstance" p) [.Name n pe, e2] [] pos) (eIsE i sub) := by
  refine ⟨fun pins s σ H Q I ⟨ρ, G, sr, q⟩ => ?_⟩
  unfold eIsE at q
  split at q
  · rename_i x e
    obtain ⟨a', cls', d', z, q1, D, m1, m2, m3⟩ := sr.xn i x [] e
    cases z
    subst m2
    have m3' : d = none := m3
    subst m3'
    cases es : sub x with
    | none =>
      simp only [es] at q
      exact q.elim
    | some b =>
      simp only [es] at q
      obtain ⟨hC, hk⟩ := hF x b D es m1
      exact (pe_callB (X := X.suite a ((a, oe) :: pn)) (call_isE hC hz hf) hg hm hb (pa_cons (pe_var hN hv hd1 hd2) (pa_cons h2 pa_nil he2) he) (by decide) (by decide) he hpl).run pins s σ H Q I
        ⟨_, q1, c, cv, b, rfl, hcv, hk, qE q sr.exGH Is.blI⟩
  · exact q.elim
theorem d_isEs {es : List Expr} {x1 : Nat} {pt : Pos} {ta : TA} {cs : List V} {us : List Value} (hz : Zc cls d oe) (hf : ∃ vs, oe.data = .fields vs) (hN : X.N[i]? = some n) (hv : Vis X.env.scope n) (hg : Gl X "isinstance") (hm : X.mg "isinstance" = none)
    (h2 : PA (X.suite a ((a, oe) :: pn)) es ta) (hta : ∀ σ H Q, Q cs H → ta σ H Q) (hl : cs.length ≤ 1000) (hcs : Paired ClsV cs us) (hF : ∀ y b D, sub y = some b → X.mg y = some (.ref D) → ExcC X.K D ∧ PySem.W.kitAny X.K (.ref D) us = some b)
    (hd1 : (n == ("__debug__" : Str)) = false := by decide) (hd2 : (n == ("__classdict__" : Str)) = false := by decide)
    (hb : bootBuiltins "isinstance" = some (.builtin "isinstance") := by decide +kernel) (he : starEach [.Name n pe, .Tuple es x1 pt] X.env = (false, eval (.Name n pe) X.env) :: starEach [.Tuple es x1 pt] X.env := by rfl)
    (he2 : starEach [.Tuple es x1 pt] X.env = (false, eval (.Tuple es x1 pt) X.env) :: starEach [] X.env := by rfl) (hpl : (backTo pos (starEach [.Tuple es x1 pt] X.env)).any (·.1) = false := by rfl) :
    DE (X.suite a ((a, oe) :: pn)) ⟨H0, G0, some (a, cls, d), rm, w0, bi⟩ W0 .E (.Call (.Name "isinstance" p) [.Name n pe, .Tuple es x1 pt] [] pos) (eIsE i sub) := by
  refine ⟨fun pins s σ H Q I ⟨ρ, G, sr, q⟩ => ?_⟩
  unfold eIsE at q
  split at q
  · rename_i x e
    obtain ⟨a', cls', d', z, q1, D, m1, m2, m3⟩ := sr.xn i x [] e
    cases z
    subst m2
    have m3' : d = none := m3
    subst m3'
    cases es' : sub x with
    | none =>
      simp only [es'] at q
      exact q.elim
    | some b =>
      simp only [es'] at q
      obtain ⟨hC, hk⟩ := hF x b D es' m1
      refine (pe_callB (X := X.suite a ((a, oe) :: pn)) (call_isEs hC hz hf) hg hm hb (pa_cons (pe_var hN hv hd1 hd2) (pa_cons (pe_tup h2) pa_nil he2) he) (by decide) (by decide) he hpl).run pins s σ H Q I
        ⟨_, q1, hta _ _ _ ⟨Nat.le_of_lt (small1000 hl), fun tp ht => ⟨tp, cs, us, b, rfl, upd_same, hcs, hk, q _ _ G ⟨Ex.new ht, Ex.refl _, sr.exGH.trans (Ex.new ht), fun _ _ z _ => z⟩ (show VS.Is (km X) G (.bl b) (.bl b) from Is.blI)⟩⟩⟩
  · exact q.elim
end
end VS

namespace VS
open PySem PySem.Spec PyProof.Rows L2 Evl

/-- a def of the text, by its name: it answers as the mirror m does -/
structure Ok (P : Program) (w : World) (K : PySem.W.Frag) (mg : Str → Option Value) (base : Heap) (k : Nat) (x : Str) (n : Nat) (m : Mir) : Prop where
  ex : ∃ (f : Addr) (fd : FuncData) (ps : List Str), mg x = some (.ref f) ∧ PySem.W.keepIn K (.ref f) = true ∧ FnOk P w K mg base (L2.CX P w) k f fd ps (spD ⟨K, mg⟩ n m) ∧ Binds K fd ps []
/-- .. as the head finds it -/
structure At (K : PySem.W.Frag) (mg : Str → Option Value) (x : Str) (st : Stmt) (ps : List Str) : Prop where
  ex : ∃ (f : Addr) (fd : FuncData), mg x = some (.ref f) ∧ Fun K x x st f fd ∧ Binds K fd ps []
theorem okO {P : Program} {w : World} {K : PySem.W.Frag} {mg : Str → Option Value} {base : Heap} {x : Str} {st : Stmt} {N ps : List Str} {k n : Nat} {fs : FS} {m : Mir} (A : At K mg x st ps) (S : FnScope N ps (defScope st)) (hn : n = ps.length) (hm : m = fDef N.length fs)
    (hbody : ∀ (f : Addr) (cdv : Value) (A : Around) (outer : List Env) (s : Shared) (H G : Hp) (E : XK), Room k (A.deeper (envOfC x (defScope st) s.heap.objs.size f cdv)) →
      DSs (cxOf (L2.CX P w) P w K mg base N x (defScope st) f cdv A outer s H E) ⟨H, G, none, .E, w, []⟩ (fun cls d _ H' => E cls d H') (defBody st) fs) :
    Ok P w K mg base (k + 1) x n m := by
  obtain ⟨f, fd, g, F, b⟩ := A.ex
  rw [hm]
  exact ⟨f, fd, ps, g, F.kp, def_ok F S hn (hbody f), b⟩
/-- .. whose answer is new -/
structure OkN (P : Program) (w : World) (K : PySem.W.Frag) (mg : Str → Option Value) (base : Heap) (k : Nat) (x : Str) (n : Nat) (m : Mir) : Prop where
  ex : ∃ (f : Addr) (fd : FuncData) (ps : List Str), mg x = some (.ref f) ∧ PySem.W.keepIn K (.ref f) = true ∧ FnOk P w K mg base (L2.CX P w) k f fd ps (spDN ⟨K, mg⟩ n m) ∧ Binds K fd ps []
theorem okON {P : Program} {w : World} {K : PySem.W.Frag} {mg : Str → Option Value} {base : Heap} {x : Str} {st : Stmt} {N ps : List Str} {k n : Nat} {fs : FS} {m : Mir} (A : At K mg x st ps) (S : FnScope N ps (defScope st)) (hn : n = ps.length) (hm : m = fDefN N.length fs)
    (hbody : ∀ (f : Addr) (cdv : Value) (A : Around) (outer : List Env) (s : Shared) (H G : Hp) (E : XK), Room k (A.deeper (envOfC x (defScope st) s.heap.objs.size f cdv)) →
      DSs (cxOf (L2.CX P w) P w K mg base N x (defScope st) f cdv A outer s H E) ⟨H, G, none, .N, w, []⟩ (fun cls d _ H' => E cls d H') (defBody st) fs) :
    OkN P w K mg base (k + 1) x n m := by
  obtain ⟨f, fd, g, F, b⟩ := A.ex
  rw [hm]
  exact ⟨f, fd, ps, g, F.kp, def_okN F S hn (hbody f), b⟩
section
variable {X : Cx} {B : BS} {W : WX} {e : Expr} {es : List Expr} {fr : FA} {pos p : Pos} {k n : Nat} {g : Mir} {x : Str}
theorem d_callN (O : OkN X.prog X.w X.K X.mg X.base k x n g) (hr : Room k X.A) (hg : Gl X x) (tk : Tk X W) (ha : DA X B W .E (e :: es) fr) (hdb : (x == ("__debug__" : Str)) = false := by decide)
    (he : starEach (e :: es) X.env = (false, eval e X.env) :: starEach es X.env := by rfl) (hpl : (backTo pos (starEach es X.env)).any (·.1) = false := by rfl) : DE X B W .N (.Call (.Name x p) (e :: es) [] pos) (eCall n g fr) := by
  obtain ⟨f, fd, ps, h1, h2, h3, h4⟩ := O.ex
  exact PE.imp (pe_callS h3 hr hg h1 h2 h4 tk ha hdb he hpl) fun σ H Q ⟨ρ, G, s, q⟩ => bindA s q .E fun ts vs H1 G1 gr s1 i p1 => by
    split at p1
    · rename_i hl
      refine ⟨ts, G1, s1.exGH, i, hl, ?_⟩
      cases r : g ts with
      | ok t => rw [r] at p1; exact p1
      | ex x q => rw [r] at p1; exact p1
      | bad => rw [r] at p1; exact p1.elim
    · exact p1.elim
end
section
variable {X : Cx} {B : BS} {W : WX} {e : Expr} {es : List Expr} {fr : FA} {pos p : Pos} {k n : Nat} {g : Mir} {x : Str}
theorem d_callO (O : Ok X.prog X.w X.K X.mg X.base k x n g) (hr : Room k X.A) (hg : Gl X x) (tk : Tk X W) (ha : DA X B W .E (e :: es) fr) (hdb : (x == ("__debug__" : Str)) = false := by decide)
    (he : starEach (e :: es) X.env = (false, eval e X.env) :: starEach es X.env := by rfl) (hpl : (backTo pos (starEach es X.env)).any (·.1) = false := by rfl) : DE X B W .E (.Call (.Name x p) (e :: es) [] pos) (eCall n g fr) := by
  obtain ⟨f, fd, ps, h1, h2, h3, h4⟩ := O.ex
  exact d_call h3 hr hg h1 h2 h4 tk ha hdb he hpl
theorem d_callOS (O : Ok X.prog X.w X.K X.mg X.base k x n g) (hr : Room k X.A) (hg : Gl X x) (tk : Tk X W) (ha : DA X B W .S (e :: es) fr) (hdb : (x == ("__debug__" : Str)) = false := by decide)
    (he : starEach (e :: es) X.env = (false, eval e X.env) :: starEach es X.env := by rfl) (hpl : (backTo pos (starEach es X.env)).any (·.1) = false := by rfl) : DE X B W .E (.Call (.Name x p) (e :: es) [] pos) (eCallS n g fr) := by
  obtain ⟨f, fd, ps, h1, h2, h3, h4⟩ := O.ex
  exact d_callS h3 hr hg h1 h2 h4 tk ha hdb he hpl
/-- a def's name as a value -/
theorem d_fnO (O : Ok X.prog X.w X.K X.mg X.base k x n g) (hg : Gl X x) (hd : (x == ("__debug__" : Str)) = false := by decide) : DE X B W .E (.Name x pos) (eC (.fn x)) := by
  obtain ⟨f, fd, ps, h1, h2, h3, h4⟩ := O.ex
  exact d_fn (v := .ref f) hg h1 rfl hd
/-- a global constant of ints -/
theorem d_gi {i : Int} (h : ∃ t, X.mg x = some (.int i t)) (hg : Gl X x) (hd : (x == ("__debug__" : Str)) = false := by decide) : DE X B W .E (.Name x pos) (eC (.int i)) := by
  obtain ⟨t, h⟩ := h
  exact d_gc (v := .int i) hg h ⟨t, rfl⟩ (fun _ => Is.intI) hd
theorem d_gs {i : Str} (h : ∃ t, X.mg x = some (.str i t)) (hg : Gl X x) (hd : (x == ("__debug__" : Str)) = false := by decide) : DE X B W .E (.Name x pos) (eC (.str i)) := by
  obtain ⟨t, h⟩ := h
  exact d_gc (v := .str i) hg h ⟨t, rfl⟩ (fun _ => Is.strI) hd
end
/-- an own exception class of the text -/
structure XC (K : PySem.W.Frag) (mg : Str → Option Value) (x : Str) : Prop where
  ex : ∃ D, mg x = some (.ref D) ∧ PySem.W.excIn K D PySem.HandSPX.veTail "ValueError.__new__" = true ∧ PySem.W.keepIn K (.ref D) = true ∧ PySem.W.subIn K (.ref D) (.type "BaseException") = some true ∧ PySem.W.typeIn K (.ref D) = some (.type "type")
theorem st_raiseO {X : Cx} {B : BS} {W : WX} {x m : Str} {j : Nat} {p p2 p3 pos : Pos} (h : XC X.K X.mg x) (hc : X.calm = true) (tk : Takes X W) (hg : Gl X x) (hdb : (x == ("__debug__" : Str)) = false := by decide) :
    DS X B W (.Raise (some (.Call (.Name x p) [.Constant (.str m) j p2] [] p3)) none pos) (sRaise x) := by
  obtain ⟨D, h1, h2, h3, h4, h5⟩ := h.ex
  exact st_raise hc tk PySem.F.excBase_ValueError h2 h1 h3 (raises_own h4 h5) hg hdb
/-! ### written dicts, try, isinstance: by existence -/
def GD (C : KM) (w : World) (x : Str) (tbl : List (Str × T)) (miss : List Str) : Prop := ∃ d, GDic C w x d tbl miss
section
variable {X : Cx} {B : BS} {W : WX} {a b : Expr} {fa fb : FE} {pos p : Pos} {x : Str} {tbl : List (Str × T)} {miss : List Str}
theorem d_ggetO (D : GD (km X) X.w x tbl miss) (hg : Gl X x) (hb : DE X B W .S b fb) (hdb : (x == ("__debug__" : Str)) = false := by decide) (hs : PlainIx b := by exact fun _ _ => rfl) : DE X B W .E (.Subscript (.Name x p) b pos) (eU (gGGet tbl) fb) := by
  obtain ⟨d, D⟩ := D
  exact d_gget D hg hb hdb hs
theorem d_gninO (D : GD (km X) X.w x tbl miss) (hg : Gl X x) (ha : DE X B W .S a fa) (hm : behindInMarks .NotIn (.Name x p) = false) (hdb : (x == ("__debug__" : Str)) = false := by decide) : DE X B W .E (.Compare a [.NotIn] [.Name x p] pos) (eU (gGIn true tbl miss) fa) := by
  obtain ⟨d, D⟩ := D
  exact d_gnin D hg ha hm hdb
theorem t_gninO (D : GD (km X) X.w x tbl miss) (hg : Gl X x) (ha : DE X B W .S a fa) (hm : behindInMarks .NotIn (.Name x p) = false) (hdb : (x == ("__debug__" : Str)) = false := by decide) : DT X B W (.Compare a [.NotIn] [.Name x p] pos) (eU (gGIn true tbl miss) fa) := by
  obtain ⟨d, D⟩ := D
  exact t_gnin D hg ha hm hdb
theorem d_ginO (D : GD (km X) X.w x tbl miss) (hg : Gl X x) (ha : DE X B W .S a fa) (hm : behindInMarks .In (.Name x p) = false) (hdb : (x == ("__debug__" : Str)) = false := by decide) : DE X B W .E (.Compare a [.In] [.Name x p] pos) (eU (gGIn false tbl miss) fa) := by
  obtain ⟨d, D⟩ := D
  exact d_gin D hg ha hm hdb
end
/-- x is a class of the text -/
def CL (mg : Str → Option Value) (x : Str) : Prop := ∃ D, mg x = some (.ref D)
section
variable {rm : Rm} {bi : List (Nat × Addr)} {X : Cx} {H0 G0 : Hp} {w0 : World} {a : Addr} {oe : Obj} {cls : Value} {d : Option Addr} {pn : List (Addr × Obj)} {i : Nat} {n x : Str} {pe p pos pc : Pos} {sub : Str → Option Bool}
theorem isE_own (hz : Zc cls d oe) (hf : ∃ vs, oe.data = .fields vs) (hN : X.N[i]? = some n) (hv : Vis X.env.scope n) (hm : X.mg "isinstance" = none) (hx : CL X.mg x)
    (hF : ∀ Dc, X.mg x = some (.ref Dc) → ∀ y b D, sub y = some b → X.mg y = some (.ref D) → ExcC X.K D ∧ PySem.W.kitOne X.K (.ref D) (.ref Dc) = some b)
    (hg : Gl X "isinstance" := by rfl) (hgx : Gl X x := by rfl) (hdx : (x == ("__debug__" : Str)) = false := by decide) (hd1 : (n == ("__debug__" : Str)) = false := by decide) (hd2 : (n == ("__classdict__" : Str)) = false := by decide)
    (hb : bootBuiltins "isinstance" = some (.builtin "isinstance") := by decide +kernel) (he : starEach [.Name n pe, .Name x pc] X.env = (false, eval (.Name n pe) X.env) :: starEach [.Name x pc] X.env := by rfl) (he2 : starEach [.Name x pc] X.env = (false, eval (.Name x pc) X.env) :: starEach [] X.env := by rfl) (hpl : (backTo pos (starEach [.Name x pc] X.env)).any (·.1) = false := by rfl) :
    DE (X.suite a ((a, oe) :: pn)) ⟨H0, G0, some (a, cls, d), rm, w0, bi⟩ W0 .E (.Call (.Name "isinstance" p) [.Name n pe, .Name x pc] [] pos) (eIsE i sub) := by
  obtain ⟨Dc, hx⟩ := hx
  exact d_isE (c := .ref Dc) (cv := .ref Dc) hz hf hN hv hg hm (pe_glob (X := X.suite a ((a, oe) :: pn)) (v := .ref Dc) hgx hx rfl hdx) (fun u h => h) (hF Dc hx) hd1 hd2 hb he he2 hpl
theorem isE_ty {T0 : String} (hz : Zc cls d oe) (hf : ∃ vs, oe.data = .fields vs) (hN : X.N[i]? = some n) (hv : Vis X.env.scope n) (hm : X.mg "isinstance" = none) (hmx : X.mg x = none) (hbx : bootBuiltins x = some (.type T0))
    (hF : ∀ y b D, sub y = some b → X.mg y = some (.ref D) → ExcC X.K D ∧ PySem.W.kitOne X.K (.ref D) (.type T0) = some b)
    (hg : Gl X "isinstance" := by rfl) (hgx : Gl X x := by rfl) (hnx : x ≠ "__name__" := by decide) (hdx : (x == ("__debug__" : Str)) = false := by decide) (hd1 : (n == ("__debug__" : Str)) = false := by decide) (hd2 : (n == ("__classdict__" : Str)) = false := by decide)
    (hb : bootBuiltins "isinstance" = some (.builtin "isinstance") := by decide +kernel) (he : starEach [.Name n pe, .Name x pc] X.env = (false, eval (.Name n pe) X.env) :: starEach [.Name x pc] X.env := by rfl) (he2 : starEach [.Name x pc] X.env = (false, eval (.Name x pc) X.env) :: starEach [] X.env := by rfl) (hpl : (backTo pos (starEach [.Name x pc] X.env)).any (·.1) = false := by rfl) :
    DE (X.suite a ((a, oe) :: pn)) ⟨H0, G0, some (a, cls, d), rm, w0, bi⟩ W0 .E (.Call (.Name "isinstance" p) [.Name n pe, .Name x pc] [] pos) (eIsE i sub) :=
  d_isE (c := .ty T0) (cv := .type T0) hz hf hN hv hg hm (pe_bltn (X := X.suite a ((a, oe) :: pn)) (v := .ty T0) hgx hmx hbx rfl hnx hdx) (fun u h => h) hF hd1 hd2 hb he he2 hpl
theorem st_tryO {W : WX} {body suite : List Stmt} {b₀ : Stmt} {np pos' : Pos} {fb fs : FS} (hs : X.stack = X.env :: X.outer) (hf : X.env.frame = some X.env.locals) (hN : X.N.Nodup) (hi : X.N[i]? = some n) (hln : X.env.kindOf n = some .local) (hx : CL X.mg x) (hgx : Gl X x) (tk : Takes X W)
    (hex : ∀ Dc, X.mg x = some (.ref Dc) → ∀ y b D, sub y = some b → X.mg y = some (.ref D) → PySem.W.exmOne X.K (.ref D) (.ref Dc) = some b)
    (hb : ∀ (W' : WX) (pn : List (Addr × Obj)) (xe : Value → Shared → Prop), Takes (X.tr pn xe) W' → PassesOwn (model X.prog X.w) X.A X.env xe → DSs (X.tr pn xe) ⟨H0, G0, none, rm, w0, bi⟩ W' body fb)
    (hsu : ∀ (a : Addr) (oe : Obj) (cls : Value) (d : Option Addr) (pn : List (Addr × Obj)), Zc cls d oe → (∃ vs, oe.data = .fields vs) → DSs (X.suite a ((a, oe) :: pn)) ⟨H0, G0, some (a, cls, d), rm, w0, bi⟩ W0 (b₀ :: suite) fs)
    (hdx : (x == ("__debug__" : Str)) = false := by decide) :
    DS X ⟨H0, G0, none, rm, w0, bi⟩ W (.Try body [.ExceptHandler (some (.Name x np)) (some n) (b₀ :: suite) pos'] [] [] pos) (sTry sub i fb fs) := by
  obtain ⟨Dc, hx⟩ := hx
  exact st_try hs hf hN hi hln ⟨hgx, hdx, .inl hx⟩ tk (hex Dc hx) hb hsu
end
/-! ### the law's own end -/
/-- what the law is asked -/
def spLaw (n : Nat) (K : PySem.W.Frag) : Sp := fun vs H Q _ => ∃ (a : Addr) (ns : List Int), vs = [.ref a] ∧ SqL K H a (ns.map V.int) ∧ ns.length ≤ n ∧ ∀ H', Q (.bl true) H'
/-- the law's def, by its mirror -/
theorem law_end {P : Program} {w : World} {K : PySem.W.Frag} {mg : Str → Option Value} {base : Heap} {k n : Nat} {f : Addr} {fd : FuncData} {ps : List Str} {m : Mir} (F : FnOk P w K mg base (L2.CX P w) k f fd ps (spD ⟨K, mg⟩ 1 m)) (hm : ∀ ns : List Int, ns.length ≤ n → m [.fro ns] = .ok (.bl true)) :
    FnOk P w K mg base (L2.CX P w) k f fd ps (spLaw n K) := F.imp fun vs H Q E ⟨a, ns, e, h, hl, q⟩ => by
  subst e
  refine ⟨[.fro ns], H, Ex.refl _, IsL.one (by unfold Is; exact ⟨a, rfl, h⟩), rfl, ?_⟩
  rw [hm ns hl]
  exact fun v H' G' _ i => by
    unfold Is at i
    subst i
    exact q H'
theorem cx_none {P : Program} {w : World} {H : Hp} {s : Shared} {e : Value} {s' : Shared} (h : L2.CX P w [] H s (fun _ _ _ => False) e s') : False := by
  obtain ⟨_, _, _, _, _, _, _, _, _, _, _, _, z⟩ := h
  exact z
/-- the script, then True -/
theorem law_sp {K : PySem.W.Frag} {mg : Str → Option Value} {m : Mir} {n : Nat} (hm : ∀ ns : List Int, ns.length ≤ n → m [.fro ns] = .ok (.bl true)) {a : Addr} {ns : List Int} {H : Hp} (hl : ns.length ≤ n) (h : SqL K H a (ns.map V.int)) :
    spD ⟨K, mg⟩ 1 m [.ref a] H (fun v _ => v = .bl true) (fun _ _ _ => False) := by
  refine ⟨[.fro ns], H, Ex.refl _, IsL.one (by unfold Is; exact ⟨a, rfl, h⟩), rfl, ?_⟩
  rw [hm ns hl]
  exact fun v H' G' _ i => by unfold Is at i; exact i
end VS

namespace VS
open PySem PySem.Spec PyProof.Rows L2 Evl

/-! ### str(int), str(str), list(range(n)) -/
def gStr : T → Option T
  | .int i => if i.natAbs.log2 < 1920 then some (.str (toString i)) else none
  | .str x => some (.str x)
  | _ => none
section
variable {X : Cx} {B : BS} {W : WX} {m : Md} {a b : Expr} {fa fb : FE} {pos p p2 pos2 : Pos}
theorem c_str : CallR X (.type "str") (rC (km X) .E gStr) := by
  intro pins s σ H xs us Q I r h
  obtain ⟨x, v, G, t, rfl, ex, ix, e, q⟩ := h
  cases x with
  | int i =>
    simp only [gStr] at e
    split at e
    · rename_i hb
      obtain rfl := Option.some.inj e
      obtain rfl := ix.int
      exact call_str_int pins s σ H _ us Q I r ⟨i, rfl, hb, qE q ex (show Is (km X) G (.str (toString i)) _ by unfold Is; rfl)⟩
    · cases e
  | str y =>
    obtain rfl := Option.some.inj e
    obtain rfl := ix.str
    exact SkE.call_str_str pins s σ H _ us Q I r ⟨y, rfl, qE q ex Is.strI⟩
  | _ => cases e
def rgT (a b : Int) : List T := (List.range (b - a).toNat).map fun i => T.int (a + (i : Nat))
theorem rgT_is {C : KM} {G : Hp} (a b : Int) : IsL C G (rgT a b) (rgV a b) := by
  unfold rgT rgV
  generalize (List.range (b - a).toNat) = l
  induction l with
  | nil => exact IsL.nil
  | cons x r ih => exact IsL.cons (by unfold Is; rfl) ih
def eLRg (fa : FE) : FE := fun ρ => (fa ρ).bind fun x => match x with | .int n => if -100000 ≤ n ∧ n ≤ 100000 then .ok (.lst (rgT 0 n)) else .bad | _ => .bad
theorem d_lRg (hc : X.calm = true) (hg : Gl X "list") (hm : X.mg "list" = none) (hg2 : Gl X "range") (hm2 : X.mg "range" = none) (ha : DE X B W .E a fa) (na : starEach [a] X.env = (false, eval a X.env) :: starEach [] X.env := by rfl)
    (nb : starEach [.Call (.Name "range" p2) [a] [] pos2] X.env = (false, eval (.Call (.Name "range" p2) [a] [] pos2) X.env) :: starEach [] X.env := by rfl) :
    DE X B W .N (.Call (.Name "list" p) [.Call (.Name "range" p2) [a] [] pos2] [] pos) (eLRg fa) :=
  PE.imp (pe_listRg hc hg hm (prg_1 hg2 hm2 ha na) nb) fun σ H Q ⟨ρ, G, s, q⟩ => bindE s q fun t v H1 G1 g1 s1 i1 p1 => by
    cases t with
    | int n =>
      have p2 : Post (km X) .N W σ H1 G1 (if -100000 ≤ n ∧ n ≤ 100000 then .ok (.lst (rgT 0 n)) else .bad) Q := p1
      split at p2
      · rename_i hn
        obtain rfl := Is.int1 i1
        refine ⟨n, rfl, ⟨by omega, by omega, by omega, by omega, by omega⟩, fun d hd => ?_⟩
        exact p2 _ _ G1 (Gr.own s1.exGH hd) ⟨d, _, rfl, hd, upd_same, ex_none s1.exGH hd, _, rfl, rgT_is 0 n⟩
      · exact p2.elim
    | _ => exact p1.elim
end
/-! ### the head's facts -/
theorem fun_of {K : PySem.W.Frag} {x : Str} {st : Stmt} {f : Addr} {fd : FuncData} (F : FunD K x x (defArgs st) (defBody st) (defScope st) [] [] f fd) : Fun K x x st f fd := by
  obtain ⟨⟨oc, od, dV, kV, doc, pm, an, cdv, ct, osl, e, lk, hcd, hD, hK⟩, kp⟩ := F
  rcases hD with ⟨_, rfl⟩ | ⟨z, _⟩
  · exact ⟨⟨oc, od, kV, doc, pm, an, cdv, ct, osl, e, lk, hcd⟩, kp⟩
  · exact absurd rfl z
theorem at_of {K : PySem.W.Frag} {h : Heap} {mg : Str → Option Value} {x : Str} {st : Stmt} {ps : List Str} (X : K.In h) (G : h.Ns mainGlobals mg) (hg : (He.Fa.glo x).ok K = true) (hd : ∃ fd, FunD K x x (defArgs st) (defBody st) (defScope st) [] [] (He.ga K x) fd)
    (hb : ∀ (kV doc pm : Value) (an : Option Addr) (cdv ct : Value) (us : List Value), us.length = ps.length → bindArgs (PySem.W.fnOf x x (defArgs st) (defBody st) (defScope st) .none kV doc pm an cdv ct) ⟨us, []⟩ = pure (ps.zip us)) : At K mg x st ps := by
  obtain ⟨fd, F⟩ := hd
  exact ⟨_, fd, He.glo_ok X G hg, fun_of F, (fun_of F).binds hb⟩
theorem xc_of {K : PySem.W.Frag} {h : Heap} {mg : Str → Option Value} {x : Str} (X : K.In h) (G : h.Ns mainGlobals mg) (hg : (He.Fa.glo x).ok K = true) (he : (He.Fa.exc x).ok K = true) : XC K mg x := by
  obtain ⟨h1, h2, h3, h4⟩ := He.exc_ok he
  exact ⟨_, He.glo_ok X G hg, h1, h2, h3, h4⟩
theorem cl_of {K : PySem.W.Frag} {h : Heap} {mg : Str → Option Value} {x : Str} (X : K.In h) (G : h.Ns mainGlobals mg) (hg : (He.Fa.glo x).ok K = true) : CL mg x := ⟨_, He.glo_ok X G hg⟩
def dO (a b : Option Bool) : Bool := decide (a = b)
/-- what the head looks at, beside the facts -/
inductive Xa where
  | exi (x : Str)
  | kit (x y : Str) (b : Bool)
  | kiT (x : Str) (n : String) (b : Bool)
  | kin (x : Str) (ys : List Str) (b : Bool)
  | tab (d : Str) (tbl : List (Str × T)) (miss : List Str)
def leafB : T → Value → Bool
  | .str x, .str y _ => decide (x = y)
  | .int i, .int j _ => decide (i = j)
  | _, _ => false
def leafs : List T → List Value → Bool
  | [], [] => true
  | t :: ts, u :: us => leafB t u && leafs ts us
  | _, _ => false
def entB (K : PySem.W.Frag) (t : T) (u : Value) : Bool := match t, u with
  | .tup l, .ref a => (match K.lookup a with
    | some ⟨.type c, _, .seq its _, _⟩ => decide (c = "tuple") && (decide (its.size ≤ sizeLine) && leafs l its.toList)
    | _ => false)
  | t, u => leafB t u
def Xa.ok (K : PySem.W.Frag) : Xa → Bool
  | .exi x => He.eqO (PySem.W.findIn K (.ref (He.ga K x)) "__getattribute__") (some (some (.builtin "BaseException.__getattribute__"))) && (He.eqO (PySem.W.findIn K (.ref (He.ga K x)) "__getattr__") (some none) &&
      (dO (PySem.W.subIn K (.ref (He.ga K x)) (.type "BaseException")) (some true) && (PySem.W.hasDictIn K (He.ga K x) && (He.eqO (PySem.W.findIn K (.ref (He.ga K x)) "__class__") (some (some (.builtin "object.__class__"))) &&
      (He.eqO (PySem.W.specialIn K (.builtin "object.__class__") "__get__") (some (some (.builtin "getset_descriptor.__get__"))) && (dO (PySem.W.takesIn K (.builtin "object.__class__")) (some true) && dO (PySem.W.mroIn K (He.ga K x) (.type "object")) (some true)))))))
  | .kit x y b => dO (PySem.W.kitOne K (.ref (He.ga K x)) (.ref (He.ga K y))) (some b)
  | .kiT x n b => dO (PySem.W.kitOne K (.ref (He.ga K x)) (.type n)) (some b)
  | .kin x ys b => dO (PySem.W.kitAny K (.ref (He.ga K x)) (ys.map fun y => .ref (He.ga K y))) (some b)
  | .tab d tbl miss => (tbl.all fun p => match PySem.W.nsIn K (He.ga K d) p.1 with
    | some (some u) => entB K p.2 u
    | _ => false) && miss.all fun z => He.eqO (PySem.W.nsIn K (He.ga K d) z) (some none)
theorem exi_ok {K : PySem.W.Frag} {x : Str} (c : (Xa.exi x).ok K = true) : ExcC K (He.ga K x) := by
  obtain ⟨c1, c⟩ := He.ba c
  obtain ⟨c2, c⟩ := He.ba c
  obtain ⟨c3, c⟩ := He.ba c
  obtain ⟨c4, c⟩ := He.ba c
  obtain ⟨c5, c⟩ := He.ba c
  obtain ⟨c6, c⟩ := He.ba c
  obtain ⟨c7, c8⟩ := He.ba c
  exact ⟨He.eqO_ok c1, He.eqO_ok c2, of_decide_eq_true c3, c4, He.eqO_ok c5, He.eqO_ok c6, of_decide_eq_true c7, of_decide_eq_true c8⟩
theorem leaf_ok {C : KM} {t : T} {u : Value} (h : leafB t u = true) : ∃ v, RelV v u ∧ ∀ G, Is C G t v := by
  cases t with
  | str x => cases u with
    | str y tk =>
      obtain rfl : x = y := of_decide_eq_true h
      exact ⟨.str x, ⟨tk, rfl⟩, fun G => Is.strI⟩
    | _ => cases h
  | int x => cases u with
    | int y tk =>
      obtain rfl : x = y := of_decide_eq_true h
      exact ⟨.int x, ⟨tk, rfl⟩, fun G => Is.intI⟩
    | _ => cases h
  | _ => cases h
theorem leafs_ok {C : KM} : ∀ {ts : List T} {us : List Value}, leafs ts us = true → ∃ vs, Vals vs us ∧ ∀ G, IsL C G ts vs
  | [], [], _ => ⟨[], .nil, fun _ => IsL.nil⟩
  | [], _ :: _, h => by cases h
  | _ :: _, [], h => by cases h
  | t :: ts, u :: us, h => by
    obtain ⟨h1, h2⟩ := He.ba h
    obtain ⟨v, r, i⟩ := leaf_ok (C := C) h1
    obtain ⟨vs, rs, is⟩ := leafs_ok (C := C) h2
    exact ⟨v :: vs, .cons r rs, fun G => IsL.cons (i G) (is G)⟩
theorem ent_ok {C : KM} {t : T} {u : Value} (h : entB C.K t u = true) : ∃ v, RelV v u ∧ ∀ G, Is C G t v := by
  unfold entB at h
  split at h
  · rename_i l a
    split at h
    · rename_i c od its n sl q
      obtain ⟨h1, h2⟩ := He.ba h
      obtain ⟨h3, h4⟩ := He.ba h2
      obtain ⟨vs, r, i⟩ := leafs_ok (C := C) h4
      exact ⟨.ref a, rfl, fun G => Is.tupI (.inr ⟨_, its, n, q, congrArg Value.type (of_decide_eq_true h1), rfl, of_decide_eq_true h3, r⟩) (i G)⟩
    · cases h
  · exact leaf_ok h
theorem lookup_in {z : Str} {t : T} : ∀ {tbl : List (Str × T)}, tbl.lookup z = some t → (z, t) ∈ tbl
  | [], e => by cases e
  | (k, u) :: r, e => by
    by_cases q : z = k
    · subst q
      rw [List.lookup_cons_self] at e
      rw [Option.some.inj e]
      exact List.mem_cons_self
    · have q' : (z == k) = false := by
        cases hq : (z == k) with
        | false => rfl
        | true => exact absurd (eq_of_beq hq) q
      rw [List.lookup_cons, q'] at e
      exact List.mem_cons_of_mem _ (lookup_in e)
theorem gd_of {C : KM} {w : World} {h : Heap} {x : Str} {tbl : List (Str × T)} {miss : List Str} (X : C.K.In h) (G : h.Ns mainGlobals C.mg) (hg : (He.Fa.glo x).ok C.K = true) (kd : ∃ es n, KDict C.K w (He.ga C.K x) es n)
    (ht : (Xa.tab x tbl miss).ok C.K = true) : GD C w x tbl miss := by
  obtain ⟨ht, hm⟩ := He.ba ht
  have ht := List.all_eq_true.mp ht
  have hm := List.all_eq_true.mp hm
  refine ⟨_, He.glo_ok X G hg, kd, fun z t e => ?_, fun z hz => He.eqO_ok (hm z hz)⟩
  have m : (z, t) ∈ tbl := lookup_in e
  have c := ht _ m
  have c2 : (match PySem.W.nsIn C.K (He.ga C.K x) z with
    | some (some u) => entB C.K t u
    | _ => false) = true := c
  cases q : PySem.W.nsIn C.K (He.ga C.K x) z with
  | none => rw [q] at c2; cases c2
  | some r =>
    rw [q] at c2
    cases r with
    | none => cases c2
    | some u =>
      obtain ⟨v, r, i⟩ := ent_ok (C := C) c2
      exact ⟨u, v, rfl, r, i⟩
/-- all that the head looks at -/
def exAll (xs : List Xa) (K : PySem.W.Frag) : Bool := xs.all fun x => x.ok K
theorem ex_at {xs : List Xa} {K : PySem.W.Frag} (h : exAll xs K = true) (i : Nat) (x : Xa) (m : xs[i]? = some x) : x.ok K = true := List.all_eq_true.mp h x (List.mem_of_getElem? m)
/-- isinstance of the exception: each class raised, by the table -/
theorem fk_of {K : PySem.W.Frag} {h : Heap} {mg : Str → Option Value} (X : K.In h) (G : h.Ns mainGlobals mg) {c : Str} {sub : Str → Option Bool} (hc : (He.Fa.glo c).ok K = true) (ha : ∀ y b, sub y = some b → (He.Fa.glo y).ok K = true ∧ (Xa.exi y).ok K = true ∧ (Xa.kit y c b).ok K = true) :
    ∀ Dc, mg c = some (.ref Dc) → ∀ y b D, sub y = some b → mg y = some (.ref D) → ExcC K D ∧ PySem.W.kitOne K (.ref D) (.ref Dc) = some b := fun Dc e y b D s m => by
  obtain ⟨h1, h2, h3⟩ := ha y b s
  rw [He.glo_ok X G hc] at e
  rw [He.glo_ok X G h1] at m
  cases e
  cases m
  exact ⟨exi_ok h2, of_decide_eq_true h3⟩
theorem fkT_of {K : PySem.W.Frag} {h : Heap} {mg : Str → Option Value} (X : K.In h) (G : h.Ns mainGlobals mg) {n : String} {sub : Str → Option Bool} (ha : ∀ y b, sub y = some b → (He.Fa.glo y).ok K = true ∧ (Xa.exi y).ok K = true ∧ (Xa.kiT y n b).ok K = true) :
    ∀ y b D, sub y = some b → mg y = some (.ref D) → ExcC K D ∧ PySem.W.kitOne K (.ref D) (.type n) = some b := fun y b D s m => by
  obtain ⟨h1, h2, h3⟩ := ha y b s
  rw [He.glo_ok X G h1] at m
  cases m
  exact ⟨exi_ok h2, of_decide_eq_true h3⟩
theorem fx_of {K : PySem.W.Frag} {h : Heap} {mg : Str → Option Value} (X : K.In h) (G : h.Ns mainGlobals mg) {c : Str} {sub : Str → Option Bool} (hc : (He.Fa.glo c).ok K = true) (ha : ∀ y b, sub y = some b → (He.Fa.glo y).ok K = true ∧ (He.Fa.exm y c b).ok K = true) :
    ∀ Dc, mg c = some (.ref Dc) → ∀ y b D, sub y = some b → mg y = some (.ref D) → PySem.W.exmOne K (.ref D) (.ref Dc) = some b := fun Dc e y b D s m => by
  obtain ⟨h1, h3⟩ := ha y b s
  rw [He.glo_ok X G hc] at e
  rw [He.glo_ok X G h1] at m
  cases e
  cases m
  exact of_decide_eq_true h3
end VS

namespace VS
open PySem PySem.Spec PyProof.Rows L2 Evl

/-! ### isinstance(e, (C, D, ..)): a tuple of the text's classes -/
inductive NmD (X : Cx) : List Expr → List Str → List Addr → Prop
  | nil : NmD X [] [] []
  | cons {x : Str} {p : Pos} {es : List Expr} {xs : List Str} {Ds : List Addr} {D : Addr} : X.mg x = some (.ref D) → Gl X x → (x == ("__debug__" : Str)) = false →
      starEach (.Name x p :: es) X.env = (false, eval (.Name x p) X.env) :: starEach es X.env → NmD X es xs Ds → NmD X (.Name x p :: es) (x :: xs) (D :: Ds)
def NmX (X : Cx) (es : List Expr) (xs : List Str) : Prop := ∃ Ds, NmD X es xs Ds
section
variable {rm : Rm} {bi : List (Nat × Addr)} {X : Cx} {H0 G0 : Hp} {w0 : World} {a : Addr} {oe : Obj} {cls : Value} {d : Option Addr} {pn : List (Addr × Obj)} {i : Nat} {n x : Str} {pe p pos pc : Pos} {sub : Str → Option Bool} {es : List Expr} {xs : List Str}
theorem nm_nil : NmX X [] [] := ⟨[], .nil⟩
theorem nm_cons (hx : CL X.mg x) (hn : NmX X es xs) (hg : Gl X x := by rfl) (hdb : (x == ("__debug__" : Str)) = false := by decide) (he : starEach (.Name x p :: es) X.env = (false, eval (.Name x p) X.env) :: starEach es X.env := by rfl) : NmX X (.Name x p :: es) (x :: xs) := by
  obtain ⟨D, hx⟩ := hx
  obtain ⟨Ds, hn⟩ := hn
  exact ⟨D :: Ds, .cons hx hg hdb he hn⟩
theorem NmD.pa {Ds : List Addr} (h : NmD X es xs Ds) : ∃ ta : TA, PA (X.suite a ((a, oe) :: pn)) es ta ∧ ∀ σ H Q, Q (Ds.map V.ref) H → ta σ H Q := by
  induction h with
  | nil => exact ⟨tNil, pa_nil, fun σ H Q q => q⟩
  | cons hm hg hdb he _ ih =>
    obtain ⟨ta, h1, h2⟩ := ih
    exact ⟨_, pa_cons (X := X.suite a ((a, oe) :: pn)) (pe_glob (X := X.suite a ((a, oe) :: pn)) (v := .ref _) hg hm rfl hdb) h1 he, fun σ H Q q => h2 σ H _ q⟩
theorem NmD.clsV {Ds : List Addr} (h : NmD X es xs Ds) : Paired ClsV (Ds.map V.ref) (Ds.map Value.ref) := by
  induction h with
  | nil => exact .nil
  | cons _ _ _ _ _ ih => exact .cons (.own _) ih
theorem NmD.len {Ds : List Addr} (h : NmD X es xs Ds) : Ds.length = xs.length := by
  induction h with
  | nil => rfl
  | cons _ _ _ _ _ ih => rw [List.length_cons, List.length_cons, ih]
theorem NmD.mgs {Ds : List Addr} (h : NmD X es xs Ds) : Paired (fun x D => X.mg x = some (.ref D)) xs Ds := by
  induction h with
  | nil => exact .nil
  | cons hm _ _ _ _ ih => exact .cons hm ih
theorem isEs_own {x1 : Nat} (hz : Zc cls d oe) (hf : ∃ vs, oe.data = .fields vs) (hN : X.N[i]? = some n) (hv : Vis X.env.scope n) (hm : X.mg "isinstance" = none) (hn : NmX X es xs) (hl : xs.length ≤ 1000)
    (hF : ∀ Ds : List Addr, Paired (fun x D => X.mg x = some (.ref D)) xs Ds → ∀ y b D, sub y = some b → X.mg y = some (.ref D) → ExcC X.K D ∧ PySem.W.kitAny X.K (.ref D) (Ds.map Value.ref) = some b)
    (hg : Gl X "isinstance" := by rfl) (hd1 : (n == ("__debug__" : Str)) = false := by decide) (hd2 : (n == ("__classdict__" : Str)) = false := by decide)
    (hb : bootBuiltins "isinstance" = some (.builtin "isinstance") := by decide +kernel) (he : starEach [.Name n pe, .Tuple es x1 pc] X.env = (false, eval (.Name n pe) X.env) :: starEach [.Tuple es x1 pc] X.env := by rfl)
    (he2 : starEach [.Tuple es x1 pc] X.env = (false, eval (.Tuple es x1 pc) X.env) :: starEach [] X.env := by rfl) (hpl : (backTo pos (starEach [.Tuple es x1 pc] X.env)).any (·.1) = false := by rfl) :
    DE (X.suite a ((a, oe) :: pn)) ⟨H0, G0, some (a, cls, d), rm, w0, bi⟩ W0 .E (.Call (.Name "isinstance" p) [.Name n pe, .Tuple es x1 pc] [] pos) (eIsE i sub) := by
  obtain ⟨Ds, h⟩ := hn
  obtain ⟨ta, h1, h2⟩ := NmD.pa (a := a) (oe := oe) (pn := pn) h
  exact d_isEs hz hf hN hv hg hm h1 h2 (by rw [List.length_map, h.len]; exact hl) h.clsV (hF Ds h.mgs) hd1 hd2 hb he he2 hpl
end
/-! ### a def that a value names, by a table -/
def tblOf (l : List (Str × Nat × Mir)) : Str → Option (Nat × Mir) := fun x => l.lookup x
def CV (X : Cx) (l : List (Str × Nat × Mir)) : Prop := ∀ x n g, tblOf l x = some (n, g) → ∃ (f : Addr) (fd : FuncData) (ps : List Str) (k : Nat), X.mg x = some (.ref f) ∧ PySem.W.keepIn X.K (.ref f) = true ∧ FnOk X.prog X.w X.K X.mg X.base (L2.CX X.prog X.w) k f fd ps (spD (km X) n g) ∧ Binds X.K fd ps [] ∧ Room k X.A
theorem cv_nil {X : Cx} : CV X [] := fun x n g e => by cases e
theorem cv_cons {X : Cx} {k n : Nat} {x : Str} {m : Mir} {l : List (Str × Nat × Mir)} (O : Ok X.prog X.w X.K X.mg X.base k x n m) (hr : Room k X.A) (h : CV X l) : CV X ((x, n, m) :: l) := fun y n' g e => by
  by_cases q : y = x
  · subst q
    unfold tblOf at e
    rw [List.lookup_cons_self] at e
    cases e
    obtain ⟨f, fd, ps, a, b, c, d⟩ := O.ex
    exact ⟨f, fd, ps, k, a, b, c, d, hr⟩
  · have q' : (y == x) = false := by
      cases hq : (y == x) with
      | false => rfl
      | true => exact absurd (eq_of_beq hq) q
    unfold tblOf at e
    rw [List.lookup_cons, q'] at e
    exact h y n' g e
theorem asDG {X : Cx} {e : Expr} (g : Tg) (h : PG X e (tG X.K g)) : DG X e g := h
theorem paired_ga {K : PySem.W.Frag} {h : Heap} {mg : Str → Option Value} (X : K.In h) (G : h.Ns mainGlobals mg) : ∀ {xs : List Str} {Ds : List Addr}, (∀ x ∈ xs, (He.Fa.glo x).ok K = true) → Paired (fun x D => mg x = some (.ref D)) xs Ds → Ds = xs.map (He.ga K)
  | _, _, _, .nil => rfl
  | x :: xs, D :: Ds, hx, .cons e r => by
    rw [He.glo_ok X G (hx x List.mem_cons_self)] at e
    cases e
    rw [List.map_cons, ← paired_ga X G (fun y m => hx y (List.mem_cons_of_mem _ m)) r]
theorem fkN_of {K : PySem.W.Frag} {h : Heap} {mg : Str → Option Value} (X : K.In h) (G : h.Ns mainGlobals mg) {xs : List Str} {sub : Str → Option Bool} (hc : ∀ x ∈ xs, (He.Fa.glo x).ok K = true) (ha : ∀ y b, sub y = some b → (He.Fa.glo y).ok K = true ∧ (Xa.exi y).ok K = true ∧ (Xa.kin y xs b).ok K = true) :
    ∀ Ds : List Addr, Paired (fun x D => mg x = some (.ref D)) xs Ds → ∀ y b D, sub y = some b → mg y = some (.ref D) → ExcC K D ∧ PySem.W.kitAny K (.ref D) (Ds.map Value.ref) = some b := fun Ds e y b D s m => by
  obtain ⟨h1, h2, h3⟩ := ha y b s
  rw [paired_ga X G hc e]
  rw [He.glo_ok X G h1] at m
  cases m
  refine ⟨exi_ok h2, ?_⟩
  rw [List.map_map]
  exact of_decide_eq_true h3
end VS

namespace VS
open PySem PySem.Spec PyProof.Rows L2 Evl
/-- {} -/
theorem d_dic0 {X : Cx} {B : BS} {W : WX} {pos : Pos} : DE X B W .N (.Dict [] [] pos) (eC (.dic [] [])) := PE.imp pe_dnewK fun σ H Q ⟨ρ, G, s, p⟩ => fun d hd =>
  p _ _ G (Gr.own s.exGH hd) ⟨d, _, rfl, hd, upd_same, ex_none s.exGH hd, [], rfl, IsL.nil, IsL.nil⟩
/-- a law's end, what it may let out told by the world -/
theorem walk_w {l : PySem.W.OpenLaw} {n k : Nat} {q : Program} {loose : List Str} {XP : (Str → Option Value) → Heap → Prop} {YP : World → Heap → Prop} {d : DefRec} {CX : World → CXT} {x : Str}
    (hn : l.most = some n) (hn2 : n ≤ sizeLine) (hdf : d.params.defaults = []) (hr : Room k callerA)
    (F : ∀ (w : World) (mg : Str → Option Value) (fa : Addr) (h : Heap), YP w h → h.Ns mainGlobals mg → mg d.name = some (.ref fa) →
      ∃ (K : PySem.W.Frag) (fd : FuncData) (sp : Sp), K.In h ∧ (∀ (s : Shared) (u : Value), BindsTo s fd ⟨[u], []⟩ [(x, u)]) ∧
        (∀ (H : Hp) (a : Addr) (ns : List Int), ns.length ≤ n → Only H → SqL K H a (ns.map V.int) → sp [.ref a] H (fun v _ => v = .bl true) fun _ _ _ => False) ∧
        ∀ base : Heap, K.In base → base.Ns mainGlobals mg → FnOk l.prog w K mg base (CX w) k fa fd [x] sp)
    (hCX : ∀ (w : World) (H : Hp) (s : Shared) (e : Value) (s' : Shared), CX w [] H s (fun _ _ _ => False) e s' → False) :
    PySem.W.WalkO q loose XP YP l.row.toRowW d [] (fun f vs => PySem.call f vs) := by
  refine Att.attach_call hn hdf fun w s₀ s₁ mg mb fa o pm cd doc a vs ns G Y ho hd hcd hmg hobj hints hlen hg => ?_
  obtain ⟨K, fd, sp, KX, hb, hsp, hF⟩ := F w mg fa _ Y G.T.g hmg
  exact law_call KX G.T.g G.T.b G.T.builtins G.T.nolimit hg hobj hints (Nat.le_trans hlen hn2) hr hF hb (fun H hO hS => hsp H a ns hlen hO hS) fun H e s' => hCX w H s₁ e s'
end VS

namespace VS
open PySem PySem.Spec PyProof.Rows L2 Evl
theorem okD_str (n : Nat) (x : Str) : okD n (.str x) = x.cps.all (· < 0x110000) := by cases n <;> unfold okD <;> rfl
theorem okD_int (n : Nat) (x : Int) : okD n (.int x) = true := by cases n <;> unfold okD <;> rfl
theorem okD_non (n : Nat) : okD n .non = true := by cases n <;> unfold okD <;> rfl
theorem okD_bl (n : Nat) (b : Bool) : okD n (.bl b) = true := by cases n <;> unfold okD <;> rfl
theorem okD_tup (n : Nat) (l : List T) : okD (n + 1) (.tup l) = okDs n l := by conv => lhs; unfold okD
theorem okD_lst (n : Nat) (l : List T) : okD (n + 1) (.lst l) = okDs n l := by conv => lhs; unfold okD
theorem okDs_nil (n : Nat) : okDs n [] = true := by cases n <;> unfold okDs <;> rfl
theorem okDs_cons (n : Nat) (t : T) (l : List T) : okDs n (t :: l) = (okD n t && okDs n l) := by conv => lhs; unfold okDs
theorem eqT_str (x y : Str) : eqT (.str x) (.str y) = (x == y) := by unfold eqT; rfl
theorem eqT_int (x y : Int) : eqT (.int x) (.int y) = (x == y) := by unfold eqT; rfl
theorem eqT_tup (x y : List T) : eqT (.tup x) (.tup y) = eqTs x y := by conv => lhs; unfold eqT
theorem eqT_lst (x y : List T) : eqT (.lst x) (.lst y) = eqTs x y := by conv => lhs; unfold eqT
theorem eqT_non : eqT .non .non = true := by unfold eqT; rfl
theorem eqTs_nil : eqTs [] [] = true := by unfold eqTs; rfl
theorem eqTs_cons (x y : T) (xs ys : List T) : eqTs (x :: xs) (y :: ys) = (eqT x y && eqTs xs ys) := by conv => lhs; unfold eqTs
theorem gEq_int (x y : Int) : gEq (.int x) (.int y) = some (.bl (decide (x = y))) := by
  unfold gEq
  rw [okD_int, okD_int, eqT_int]
  by_cases h : x = y <;> simp [h]
theorem gNe_int (x y : Int) : gNe (.int x) (.int y) = some (.bl (!decide (x = y))) := by
  unfold gNe
  rw [okD_int, okD_int, eqT_int]
  by_cases h : x = y <;> simp [h]
theorem o_put (n : Nat) : okD n (.str "put") = true := by rw [okD_str]; decide +kernel
theorem o_more (n : Nat) : okD n (.str "more") = true := by rw [okD_str]; decide +kernel
theorem o_copy (n : Nat) : okD n (.str "copy") = true := by rw [okD_str]; decide +kernel
theorem o_tell (n : Nat) : okD n (.str "tell") = true := by rw [okD_str]; decide +kernel
theorem o_go (n : Nat) : okD n (.str "go") = true := by rw [okD_str]; decide +kernel
theorem o_ask (n : Nat) : okD n (.str "ask") = true := by rw [okD_str]; decide +kernel
theorem o_stop (n : Nat) : okD n (.str "stop") = true := by rw [okD_str]; decide +kernel
theorem e_put_put : eqT (.str "put") (.str "put") = true := by rw [eqT_str]; decide +kernel
theorem q_put_put : gEq (.str "put") (.str "put") = some (.bl true) := by unfold gEq; rw [o_put, e_put_put]; rfl
theorem e_put_more : eqT (.str "put") (.str "more") = false := by rw [eqT_str]; decide +kernel
theorem q_put_more : gEq (.str "put") (.str "more") = some (.bl false) := by unfold gEq; rw [o_put, o_more, e_put_more]; rfl
theorem e_put_copy : eqT (.str "put") (.str "copy") = false := by rw [eqT_str]; decide +kernel
theorem q_put_copy : gEq (.str "put") (.str "copy") = some (.bl false) := by unfold gEq; rw [o_put, o_copy, e_put_copy]; rfl
theorem e_put_tell : eqT (.str "put") (.str "tell") = false := by rw [eqT_str]; decide +kernel
theorem q_put_tell : gEq (.str "put") (.str "tell") = some (.bl false) := by unfold gEq; rw [o_put, o_tell, e_put_tell]; rfl
theorem e_put_go : eqT (.str "put") (.str "go") = false := by rw [eqT_str]; decide +kernel
theorem q_put_go : gEq (.str "put") (.str "go") = some (.bl false) := by unfold gEq; rw [o_put, o_go, e_put_go]; rfl
theorem e_put_ask : eqT (.str "put") (.str "ask") = false := by rw [eqT_str]; decide +kernel
theorem q_put_ask : gEq (.str "put") (.str "ask") = some (.bl false) := by unfold gEq; rw [o_put, o_ask, e_put_ask]; rfl
theorem e_put_stop : eqT (.str "put") (.str "stop") = false := by rw [eqT_str]; decide +kernel
theorem q_put_stop : gEq (.str "put") (.str "stop") = some (.bl false) := by unfold gEq; rw [o_put, o_stop, e_put_stop]; rfl
theorem e_more_put : eqT (.str "more") (.str "put") = false := by rw [eqT_str]; decide +kernel
theorem q_more_put : gEq (.str "more") (.str "put") = some (.bl false) := by unfold gEq; rw [o_more, o_put, e_more_put]; rfl
theorem e_more_more : eqT (.str "more") (.str "more") = true := by rw [eqT_str]; decide +kernel
theorem q_more_more : gEq (.str "more") (.str "more") = some (.bl true) := by unfold gEq; rw [o_more, e_more_more]; rfl
theorem e_more_copy : eqT (.str "more") (.str "copy") = false := by rw [eqT_str]; decide +kernel
theorem q_more_copy : gEq (.str "more") (.str "copy") = some (.bl false) := by unfold gEq; rw [o_more, o_copy, e_more_copy]; rfl
theorem e_more_tell : eqT (.str "more") (.str "tell") = false := by rw [eqT_str]; decide +kernel
theorem q_more_tell : gEq (.str "more") (.str "tell") = some (.bl false) := by unfold gEq; rw [o_more, o_tell, e_more_tell]; rfl
theorem e_more_go : eqT (.str "more") (.str "go") = false := by rw [eqT_str]; decide +kernel
theorem q_more_go : gEq (.str "more") (.str "go") = some (.bl false) := by unfold gEq; rw [o_more, o_go, e_more_go]; rfl
theorem e_more_ask : eqT (.str "more") (.str "ask") = false := by rw [eqT_str]; decide +kernel
theorem q_more_ask : gEq (.str "more") (.str "ask") = some (.bl false) := by unfold gEq; rw [o_more, o_ask, e_more_ask]; rfl
theorem e_more_stop : eqT (.str "more") (.str "stop") = false := by rw [eqT_str]; decide +kernel
theorem q_more_stop : gEq (.str "more") (.str "stop") = some (.bl false) := by unfold gEq; rw [o_more, o_stop, e_more_stop]; rfl
theorem e_copy_put : eqT (.str "copy") (.str "put") = false := by rw [eqT_str]; decide +kernel
theorem q_copy_put : gEq (.str "copy") (.str "put") = some (.bl false) := by unfold gEq; rw [o_copy, o_put, e_copy_put]; rfl
theorem e_copy_more : eqT (.str "copy") (.str "more") = false := by rw [eqT_str]; decide +kernel
theorem q_copy_more : gEq (.str "copy") (.str "more") = some (.bl false) := by unfold gEq; rw [o_copy, o_more, e_copy_more]; rfl
theorem e_copy_copy : eqT (.str "copy") (.str "copy") = true := by rw [eqT_str]; decide +kernel
theorem q_copy_copy : gEq (.str "copy") (.str "copy") = some (.bl true) := by unfold gEq; rw [o_copy, e_copy_copy]; rfl
theorem e_copy_tell : eqT (.str "copy") (.str "tell") = false := by rw [eqT_str]; decide +kernel
theorem q_copy_tell : gEq (.str "copy") (.str "tell") = some (.bl false) := by unfold gEq; rw [o_copy, o_tell, e_copy_tell]; rfl
theorem e_copy_go : eqT (.str "copy") (.str "go") = false := by rw [eqT_str]; decide +kernel
theorem q_copy_go : gEq (.str "copy") (.str "go") = some (.bl false) := by unfold gEq; rw [o_copy, o_go, e_copy_go]; rfl
theorem e_copy_ask : eqT (.str "copy") (.str "ask") = false := by rw [eqT_str]; decide +kernel
theorem q_copy_ask : gEq (.str "copy") (.str "ask") = some (.bl false) := by unfold gEq; rw [o_copy, o_ask, e_copy_ask]; rfl
theorem e_copy_stop : eqT (.str "copy") (.str "stop") = false := by rw [eqT_str]; decide +kernel
theorem q_copy_stop : gEq (.str "copy") (.str "stop") = some (.bl false) := by unfold gEq; rw [o_copy, o_stop, e_copy_stop]; rfl
theorem e_tell_put : eqT (.str "tell") (.str "put") = false := by rw [eqT_str]; decide +kernel
theorem q_tell_put : gEq (.str "tell") (.str "put") = some (.bl false) := by unfold gEq; rw [o_tell, o_put, e_tell_put]; rfl
theorem e_tell_more : eqT (.str "tell") (.str "more") = false := by rw [eqT_str]; decide +kernel
theorem q_tell_more : gEq (.str "tell") (.str "more") = some (.bl false) := by unfold gEq; rw [o_tell, o_more, e_tell_more]; rfl
theorem e_tell_copy : eqT (.str "tell") (.str "copy") = false := by rw [eqT_str]; decide +kernel
theorem q_tell_copy : gEq (.str "tell") (.str "copy") = some (.bl false) := by unfold gEq; rw [o_tell, o_copy, e_tell_copy]; rfl
theorem e_tell_tell : eqT (.str "tell") (.str "tell") = true := by rw [eqT_str]; decide +kernel
theorem q_tell_tell : gEq (.str "tell") (.str "tell") = some (.bl true) := by unfold gEq; rw [o_tell, e_tell_tell]; rfl
theorem e_tell_go : eqT (.str "tell") (.str "go") = false := by rw [eqT_str]; decide +kernel
theorem q_tell_go : gEq (.str "tell") (.str "go") = some (.bl false) := by unfold gEq; rw [o_tell, o_go, e_tell_go]; rfl
theorem e_tell_ask : eqT (.str "tell") (.str "ask") = false := by rw [eqT_str]; decide +kernel
theorem q_tell_ask : gEq (.str "tell") (.str "ask") = some (.bl false) := by unfold gEq; rw [o_tell, o_ask, e_tell_ask]; rfl
theorem e_tell_stop : eqT (.str "tell") (.str "stop") = false := by rw [eqT_str]; decide +kernel
theorem q_tell_stop : gEq (.str "tell") (.str "stop") = some (.bl false) := by unfold gEq; rw [o_tell, o_stop, e_tell_stop]; rfl
theorem e_go_put : eqT (.str "go") (.str "put") = false := by rw [eqT_str]; decide +kernel
theorem q_go_put : gEq (.str "go") (.str "put") = some (.bl false) := by unfold gEq; rw [o_go, o_put, e_go_put]; rfl
theorem e_go_more : eqT (.str "go") (.str "more") = false := by rw [eqT_str]; decide +kernel
theorem q_go_more : gEq (.str "go") (.str "more") = some (.bl false) := by unfold gEq; rw [o_go, o_more, e_go_more]; rfl
theorem e_go_copy : eqT (.str "go") (.str "copy") = false := by rw [eqT_str]; decide +kernel
theorem q_go_copy : gEq (.str "go") (.str "copy") = some (.bl false) := by unfold gEq; rw [o_go, o_copy, e_go_copy]; rfl
theorem e_go_tell : eqT (.str "go") (.str "tell") = false := by rw [eqT_str]; decide +kernel
theorem q_go_tell : gEq (.str "go") (.str "tell") = some (.bl false) := by unfold gEq; rw [o_go, o_tell, e_go_tell]; rfl
theorem e_go_go : eqT (.str "go") (.str "go") = true := by rw [eqT_str]; decide +kernel
theorem q_go_go : gEq (.str "go") (.str "go") = some (.bl true) := by unfold gEq; rw [o_go, e_go_go]; rfl
theorem e_go_ask : eqT (.str "go") (.str "ask") = false := by rw [eqT_str]; decide +kernel
theorem q_go_ask : gEq (.str "go") (.str "ask") = some (.bl false) := by unfold gEq; rw [o_go, o_ask, e_go_ask]; rfl
theorem e_go_stop : eqT (.str "go") (.str "stop") = false := by rw [eqT_str]; decide +kernel
theorem q_go_stop : gEq (.str "go") (.str "stop") = some (.bl false) := by unfold gEq; rw [o_go, o_stop, e_go_stop]; rfl
theorem e_ask_put : eqT (.str "ask") (.str "put") = false := by rw [eqT_str]; decide +kernel
theorem q_ask_put : gEq (.str "ask") (.str "put") = some (.bl false) := by unfold gEq; rw [o_ask, o_put, e_ask_put]; rfl
theorem e_ask_more : eqT (.str "ask") (.str "more") = false := by rw [eqT_str]; decide +kernel
theorem q_ask_more : gEq (.str "ask") (.str "more") = some (.bl false) := by unfold gEq; rw [o_ask, o_more, e_ask_more]; rfl
theorem e_ask_copy : eqT (.str "ask") (.str "copy") = false := by rw [eqT_str]; decide +kernel
theorem q_ask_copy : gEq (.str "ask") (.str "copy") = some (.bl false) := by unfold gEq; rw [o_ask, o_copy, e_ask_copy]; rfl
theorem e_ask_tell : eqT (.str "ask") (.str "tell") = false := by rw [eqT_str]; decide +kernel
theorem q_ask_tell : gEq (.str "ask") (.str "tell") = some (.bl false) := by unfold gEq; rw [o_ask, o_tell, e_ask_tell]; rfl
theorem e_ask_go : eqT (.str "ask") (.str "go") = false := by rw [eqT_str]; decide +kernel
theorem q_ask_go : gEq (.str "ask") (.str "go") = some (.bl false) := by unfold gEq; rw [o_ask, o_go, e_ask_go]; rfl
theorem e_ask_ask : eqT (.str "ask") (.str "ask") = true := by rw [eqT_str]; decide +kernel
theorem q_ask_ask : gEq (.str "ask") (.str "ask") = some (.bl true) := by unfold gEq; rw [o_ask, e_ask_ask]; rfl
theorem e_ask_stop : eqT (.str "ask") (.str "stop") = false := by rw [eqT_str]; decide +kernel
theorem q_ask_stop : gEq (.str "ask") (.str "stop") = some (.bl false) := by unfold gEq; rw [o_ask, o_stop, e_ask_stop]; rfl
theorem e_stop_put : eqT (.str "stop") (.str "put") = false := by rw [eqT_str]; decide +kernel
theorem q_stop_put : gEq (.str "stop") (.str "put") = some (.bl false) := by unfold gEq; rw [o_stop, o_put, e_stop_put]; rfl
theorem e_stop_more : eqT (.str "stop") (.str "more") = false := by rw [eqT_str]; decide +kernel
theorem q_stop_more : gEq (.str "stop") (.str "more") = some (.bl false) := by unfold gEq; rw [o_stop, o_more, e_stop_more]; rfl
theorem e_stop_copy : eqT (.str "stop") (.str "copy") = false := by rw [eqT_str]; decide +kernel
theorem q_stop_copy : gEq (.str "stop") (.str "copy") = some (.bl false) := by unfold gEq; rw [o_stop, o_copy, e_stop_copy]; rfl
theorem e_stop_tell : eqT (.str "stop") (.str "tell") = false := by rw [eqT_str]; decide +kernel
theorem q_stop_tell : gEq (.str "stop") (.str "tell") = some (.bl false) := by unfold gEq; rw [o_stop, o_tell, e_stop_tell]; rfl
theorem e_stop_go : eqT (.str "stop") (.str "go") = false := by rw [eqT_str]; decide +kernel
theorem q_stop_go : gEq (.str "stop") (.str "go") = some (.bl false) := by unfold gEq; rw [o_stop, o_go, e_stop_go]; rfl
theorem e_stop_ask : eqT (.str "stop") (.str "ask") = false := by rw [eqT_str]; decide +kernel
theorem q_stop_ask : gEq (.str "stop") (.str "ask") = some (.bl false) := by unfold gEq; rw [o_stop, o_ask, e_stop_ask]; rfl
theorem e_stop_stop : eqT (.str "stop") (.str "stop") = true := by rw [eqT_str]; decide +kernel
theorem q_stop_stop : gEq (.str "stop") (.str "stop") = some (.bl true) := by unfold gEq; rw [o_stop, e_stop_stop]; rfl
mutual
theorem eqT_refl : ∀ (n : Nat) (t : T), okD n t = true → eqT t t = true
  | n, .non, _ => eqT_non
  | n, .bl b, _ => by unfold eqT; exact beq_self_eq_true b
  | n, .int i, _ => by unfold eqT; exact beq_self_eq_true i
  | n, .str x, _ => by unfold eqT; exact beq_self_eq_true x
  | n + 1, .tup l, h => by rw [eqT_tup]; rw [okD_tup] at h; exact eqTs_refl n l h
  | n + 1, .lst l, h => by rw [eqT_lst]; rw [okD_lst] at h; exact eqTs_refl n l h
  | 0, .tup l, h => by unfold okD at h; cases h
  | 0, .lst l, h => by unfold okD at h; cases h
  | n, .dic a b, h => by cases n <;> unfold okD at h <;> cases h
  | n, .fro a, h => by cases n <;> unfold okD at h <;> cases h
  | n, .fn a, h => by cases n <;> unfold okD at h <;> cases h
  | n, .ty a, h => by cases n <;> unfold okD at h <;> cases h
theorem eqTs_refl : ∀ (n : Nat) (l : List T), okDs n l = true → eqTs l l = true
  | n, [], _ => eqTs_nil
  | n, x :: xs, h => by
    rw [okDs_cons] at h
    have h2 := Bool.and_eq_true_iff.mp h
    rw [eqTs_cons, eqT_refl n x h2.1, eqTs_refl n xs h2.2]
    rfl
end
theorem gEq_refl {t : T} (h : okD 20 t = true) : gEq t t = some (.bl true) := by unfold gEq; rw [h, eqT_refl 20 t h]; rfl
theorem gNe_refl {t : T} (h : okD 20 t = true) : gNe t t = some (.bl false) := by unfold gNe; rw [h, eqT_refl 20 t h]; rfl
/-! ### items -/
theorem ixN_nat (n k : Nat) : ixN n (k : Int) = if k < n then some k else none := by
  unfold ixN
  rw [if_pos (Int.natCast_nonneg k)]
  by_cases h : k < n
  · rw [if_pos (by omega), if_pos h, Int.toNat_natCast]
  · rw [if_neg (by omega), if_neg h]
theorem atI_nat {α : Type} (l : List α) (k : Nat) : atI l (k : Int) = l[k]? := by
  unfold atI
  rw [ixN_nat]
  by_cases h : k < l.length
  · rw [if_pos h]
    rfl
  · rw [if_neg h, List.getElem?_eq_none (by omega)]
    rfl
theorem atI_0 {α : Type} (l : List α) : atI l 0 = l[0]? := atI_nat l 0
theorem atI_1 {α : Type} (l : List α) : atI l 1 = l[1]? := atI_nat l 1
theorem atI_2 {α : Type} (l : List α) : atI l 2 = l[2]? := atI_nat l 2
theorem atI_last {α : Type} (l : List α) : atI l (-1) = l.getLast? := by
  unfold atI ixN
  cases l with
  | nil => rfl
  | cons x xs =>
    rw [if_neg (by decide), if_pos (by rw [List.length_cons]; omega)]
    have e : (-1 + ((x :: xs).length : Int)).toNat = xs.length := by rw [List.length_cons]; omega
    rw [e, List.getLast?_eq_getElem?]
    rfl
theorem gIx_tup (l : List T) (i : Int) : gIx (.tup l) (.int i) = atI l i := rfl
theorem gIx_lst (l : List T) (i : Int) : gIx (.lst l) (.int i) = atI l i := rfl
theorem gIx_fro (l : List Int) (i : Int) : gIx (.fro l) (.int i) = (atI l i).map T.int := rfl
/-! ### comprehensions, loops -/
theorem sApp_ok {i : Nat} {fa : FE} {ρ : Ev'} {l : List T} {t : T} (h : ρ[i]? = some (.ow (.lst l))) (e : fa ρ = .ok t) (hl : l.length < 100000) : sApp i fa ρ = .nx (ρ.set i (.ow (.lst (l ++ [t])))) := by
  unfold sApp
  rw [h]
  simp only [sLift, e]
  rw [if_pos hl]
theorem sSeq_nx {f g : FS} {ρ ρ' : Ev'} (h : f ρ = .nx ρ') : sSeq f g ρ = g ρ' := by
  unfold sSeq
  rw [h]
theorem lt_big {n : Nat} (h : n ≤ 1000) : n < 100000 := Nat.lt_of_le_of_lt h (by decide)
theorem le_big {n : Nat} (h : n ≤ 1000) : n ≤ 100000 := Nat.le_of_lt (lt_big h)
theorem le_big9 {n : Nat} (h : n ≤ 1000) : n ≤ 99999 := Nat.le_trans h (by decide)

theorem compF_map {i : Nat} {fe : FE} {ρ : Ev'} {f : T → T} : ∀ {l : List T}, (∀ t ∈ l, fe (ρ.set i (.sh t)) = .ok (f t)) → compF (.nm i) (eC (.bl true)) fe l ρ = .ok (l.map f)
  | [], _ => rfl
  | t :: l, h => by
    have h1 := h t List.mem_cons_self
    have h2 := compF_map (l := l) fun u m => h u (List.mem_cons_of_mem _ m)
    simp only [compF, setT, eC, h1, h2, Res.bind, List.map_cons]
theorem loop_nx {i : Nat} {body : FS} (I : Nat → Ev' → Prop) : ∀ (l : List T) (n : Nat) (ρ : Ev'), I n ρ → (∀ t ∈ l, ∀ m, n ≤ m → m < n + l.length → ∀ ρ, I m ρ → ∃ ρ1, body (ρ.set i (.sh t)) = .nx ρ1 ∧ I (m + 1) ρ1) → ∃ ρ', loopF (.nm i) body l ρ = .nx ρ' ∧ I (n + l.length) ρ'
  | [], n, ρ, h, _ => ⟨ρ, rfl, h⟩
  | t :: l, n, ρ, h, hb => by
    obtain ⟨ρ1, h1, h2⟩ := hb t List.mem_cons_self n (Nat.le_refl _) (by rw [List.length_cons]; omega) ρ h
    obtain ⟨ρ', h3, h4⟩ := loop_nx I l (n + 1) ρ1 h2 fun u m k k1 k2 => hb u (List.mem_cons_of_mem _ m) k (by omega) (by rw [List.length_cons]; omega)
    refine ⟨ρ', ?_, by rw [List.length_cons]; rw [Nat.add_assoc, Nat.add_comm 1] at h4; exact h4⟩
    unfold loopF
    simp only [setT, h1, h3]
theorem bls_map (l : List T) (f : T → Bool) : bls (l.map fun t => T.bl (f t)) = some (l.map f) := by
  induction l with
  | nil => rfl
  | cons x xs ih => simp only [List.map_cons, bls, ih, Option.map_some]
theorem gAll_map (l : List T) (f : T → Bool) : gAll (.lst (l.map fun t => T.bl (f t))) = some (.bl (l.all f)) := by
  simp only [gAll, bls_map, Option.map_some, List.all_map, Function.comp_def, id]
theorem eAll_comp {fi : FI} {i : Nat} {is : List Nat} {fe : FE} {ρ : Ev'} {l : List T} {f : T → Bool} (hi : fi ρ = .ok l) (hl : l.length ≤ 99999) (h : ∀ t ∈ l, fe ((wipeE ρ is).set i (.sh t)) = .ok (.bl (f t))) :
    eU gAll (eComp fi (.nm i) is (eC (.bl true)) fe) ρ = .ok (.bl (l.all f)) := by
  have e := compF_map (i := i) (fe := fe) (ρ := wipeE ρ is) (f := fun t => .bl (f t)) h
  simp only [eU, eComp, hi, e, Res.bind, List.length_map, hl, if_true, gAll_map, Res.of]
end VS

/-! pure lemmas on the combinators -/
namespace VS
open PySem PySem.Spec PyProof.Rows L2 Evl
theorem eOr_bl {fa fb : FE} {ρ : Ev'} {a b : Bool} (h1 : fa ρ = .ok (.bl a)) (h2 : a = false → fb ρ = .ok (.bl b)) : eOr fa fb ρ = .ok (.bl (a || b)) := by
  unfold eOr
  rw [h1]
  cases a with
  | true => rfl
  | false => exact h2 rfl
theorem eAnd_bl {fa fb : FE} {ρ : Ev'} {a b : Bool} (h1 : fa ρ = .ok (.bl a)) (h2 : a = true → fb ρ = .ok (.bl b)) : eAnd fa fb ρ = .ok (.bl (a && b)) := by
  unfold eAnd
  rw [h1]
  cases a with
  | true => exact h2 rfl
  | false => rfl
theorem eNot_bl {fa : FE} {ρ : Ev'} {a : Bool} (h1 : fa ρ = .ok (.bl a)) : eNot fa ρ = .ok (.bl (!a)) := by
  unfold eNot
  rw [h1]
  rfl
theorem eB_ok {g : T → T → Option T} {fa fb : FE} {ρ : Ev'} {x y z : T} (h1 : fa ρ = .ok x) (h2 : fb ρ = .ok y) (h3 : g x y = some z) : eB g fa fb ρ = .ok z := by
  unfold eB
  rw [h1]
  show (Res.bind (fb ρ) fun y => Res.of (g x y)) = _
  rw [h2]
  show Res.of (g x y) = _
  rw [h3]
  rfl
theorem eU_ok {g : T → Option T} {fa : FE} {ρ : Ev'} {x z : T} (h1 : fa ρ = .ok x) (h3 : g x = some z) : eU g fa ρ = .ok z := by
  unfold eU
  rw [h1]
  show Res.of (g x) = _
  rw [h3]
  rfl
theorem eV_ok {i : Nat} {ρ : Ev'} {t : T} (h : ρ[i]? = some (.sh t)) : eV i ρ = .ok t := by unfold eV; rw [h]
theorem eW_sh {i : Nat} {ρ : Ev'} {t : T} (h : ρ[i]? = some (.sh t)) : eW i ρ = .ok t := by unfold eW; rw [h]
theorem eW_ow {i : Nat} {ρ : Ev'} {t : T} (h : ρ[i]? = some (.ow t)) : eW i ρ = .ok t := by unfold eW; rw [h]
theorem aCons_ok {fa : FE} {fr : FA} {ρ : Ev'} {t : T} {ts : List T} (h1 : fa ρ = .ok t) (h2 : fr ρ = .ok ts) : aCons fa fr ρ = .ok (t :: ts) := by
  unfold aCons
  rw [h1]
  show (Res.bind (fr ρ) fun xs => .ok (t :: xs)) = _
  rw [h2]
  rfl
theorem aNil_ok {ρ : Ev'} : aNil ρ = .ok [] := rfl
theorem eCall_ok {n : Nat} {f : Mir} {fa : FA} {ρ : Ev'} {ts : List T} {r : Res T} (h1 : fa ρ = .ok ts) (h2 : ts.length = n) (h3 : f ts = r) : eCall n f fa ρ = r := by
  unfold eCall
  rw [h1]
  show (if ts.length = n then f ts else .bad) = r
  rw [if_pos h2, h3]
theorem eTup_ok {fa : FA} {ρ : Ev'} {ts : List T} (h1 : fa ρ = .ok ts) (h2 : ts.length ≤ 1000) : eTup fa ρ = .ok (.tup ts) := by
  unfold eTup
  rw [h1]
  show (if ts.length ≤ 100000 then Res.ok (T.tup ts) else .bad) = _
  rw [if_pos (le_big h2)]
theorem eLst_ok {fa : FA} {ρ : Ev'} {ts : List T} (h1 : fa ρ = .ok ts) (h2 : ts.length ≤ 1000) : eLst fa ρ = .ok (.lst ts) := by
  unfold eLst
  rw [h1]
  show (if ts.length ≤ 100000 then Res.ok (T.lst ts) else .bad) = _
  rw [if_pos (le_big h2)]
theorem sSet_ok {i : Nat} {fa : FE} {ρ : Ev'} {t : T} (h : fa ρ = .ok t) : sSet i fa ρ = .nx (ρ.set i (.sh t)) := by unfold sSet sLift; rw [h]
theorem sNew_ok {i : Nat} {fa : FE} {ρ : Ev'} {t : T} (h : fa ρ = .ok t) : sNew i fa ρ = .nx (ρ.set i (.ow t)) := by unfold sNew sLift; rw [h]
theorem sRet_ok {fa : FE} {ρ : Ev'} {t : T} (h : fa ρ = .ok t) : sRet fa ρ = .rt t := by unfold sRet sLift; rw [h]
theorem sExp_ok {fa : FE} {ρ : Ev'} {t : T} (h : fa ρ = .ok t) : sExp fa ρ = .nx ρ := by unfold sExp sLift; rw [h]
theorem sIf_t {fc : FE} {f g : FS} {ρ : Ev'} (h : fc ρ = .ok (.bl true)) : sIf fc f g ρ = f ρ := by unfold sIf sLift; rw [h]
theorem sIf_f {fc : FE} {f g : FS} {ρ : Ev'} (h : fc ρ = .ok (.bl false)) : sIf fc f g ρ = g ρ := by unfold sIf sLift; rw [h]
theorem seqE {f g : FS} {ρ ρ' : Ev'} {o : Out} (h : f ρ = .nx ρ') (k : g ρ' = o) : sSeq f g ρ = o := (sSeq_nx h).trans k
theorem ifE_t {fc : FE} {f g : FS} {ρ : Ev'} {o : Out} (h : fc ρ = .ok (.bl true)) (k : f ρ = o) : sIf fc f g ρ = o := (sIf_t h).trans k
theorem ifE_f {fc : FE} {f g : FS} {ρ : Ev'} {o : Out} (h : fc ρ = .ok (.bl false)) (k : g ρ = o) : sIf fc f g ρ = o := (sIf_f h).trans k
theorem sSeq_rt {f g : FS} {ρ : Ev'} {t : T} (h : f ρ = .rt t) : sSeq f g ρ = .rt t := by unfold sSeq; rw [h]
theorem sSeq_ex {f g : FS} {ρ ρ' : Ev'} {x : Str} {p : List T} (h : f ρ = .ex x p ρ') : sSeq f g ρ = .ex x p ρ' := by unfold sSeq; rw [h]
theorem sSeq_ct {f g : FS} {ρ ρ' : Ev'} (h : f ρ = .ct ρ') : sSeq f g ρ = .ct ρ' := by unfold sSeq; rw [h]
theorem sSeq_bk {f g : FS} {ρ ρ' : Ev'} (h : f ρ = .bk ρ') : sSeq f g ρ = .bk ρ' := by unfold sSeq; rw [h]
theorem sFor_ok {fi : FI} {g : Tg} {body : FS} {ρ : Ev'} {l : List T} {o : Out} (h : fi ρ = .ok l) (k : loopF g body l ρ = o) : sFor fi g body ρ = o := by
  unfold sFor
  rw [h]
  exact k
theorem fDef_rt {m : Nat} {f : FS} {ts : List T} {t : T} (h : f (ts.map Sl.sh ++ List.replicate (m - ts.length) Sl.un) = .rt t) : fDef m f ts = .ok t := by unfold fDef; rw [h]
theorem fDef_nx {m : Nat} {f : FS} {ts : List T} {ρ : Ev'} (h : f (ts.map Sl.sh ++ List.replicate (m - ts.length) Sl.un) = .nx ρ) : fDef m f ts = .ok .non := by unfold fDef; rw [h]
theorem fDef_ex {m : Nat} {f : FS} {ts : List T} {ρ : Ev'} {x : Str} {p : List T} (h : f (ts.map Sl.sh ++ List.replicate (m - ts.length) Sl.un) = .ex x p ρ) : fDef m f ts = .ex x p := by unfold fDef; rw [h]
theorem iIt_lst {fa : FE} {ρ : Ev'} {l : List T} (h : fa ρ = .ok (.lst l)) : iIt fa ρ = .ok l := by unfold iIt; rw [h]; rfl
theorem iIt_tup {fa : FE} {ρ : Ev'} {l : List T} (h : fa ρ = .ok (.tup l)) : iIt fa ρ = .ok l := by unfold iIt; rw [h]; rfl
theorem iRg_ok {fa : FE} {ρ : Ev'} {n : Nat} (h : fa ρ = .ok (.int (n : Nat))) (hn : n ≤ 1000) : iRg fa ρ = .ok ((List.range n).map fun i => .int (i : Nat)) := by
  have hb : ((n : Nat) : Int) ≤ 100000 := Int.ofNat_le.mpr (le_big hn)
  have hb0 : (-100000 : Int) ≤ (n : Nat) := by omega
  unfold iRg
  rw [h]
  show (if (-100000 : Int) ≤ (n : Nat) ∧ ((n : Nat) : Int) ≤ 100000 then Res.ok ((List.range ((n : Nat) : Int).toNat).map fun i => T.int (i : Nat)) else .bad) = _
  rw [if_pos ⟨hb0, hb⟩, Int.toNat_natCast]
/-- a comprehension without a test, its target one name -/
theorem compF_mapM {i : Nat} {fe : FE} {ρ : Ev'} {α : Type} {u : α → T} {f : α → T} : ∀ {l : List α}, (∀ a ∈ l, fe (ρ.set i (.sh (u a))) = .ok (f a)) → compF (.nm i) (eC (.bl true)) fe (l.map u) ρ = .ok (l.map f)
  | [], _ => rfl
  | a :: l, h => by
    rw [List.map_cons, List.map_cons]
    unfold compF
    simp only [setT, eC]
    rw [h a List.mem_cons_self, compF_mapM fun b m => h b (List.mem_cons_of_mem _ m)]
    rfl
theorem eComp_map {fi : FI} {i : Nat} {is : List Nat} {fe : FE} {ρ : Ev'} {α : Type} {u : α → T} {f : α → T} {l : List α} (hi : fi ρ = .ok (l.map u)) (hl : l.length ≤ 1000) (h : ∀ a ∈ l, fe ((wipeE ρ is).set i (.sh (u a))) = .ok (f a)) :
    eComp fi (.nm i) is (eC (.bl true)) fe ρ = .ok (.lst (l.map f)) := by
  unfold eComp
  rw [hi]
  show (Res.bind (compF (.nm i) (eC (.bl true)) fe (l.map u) (wipeE ρ is)) fun ts => if ts.length ≤ 99999 then .ok (T.lst ts) else .bad) = _
  rw [compF_mapM h]
  show (if (l.map f).length ≤ 99999 then Res.ok (T.lst (l.map f)) else .bad) = _
  rw [if_pos (by rw [List.length_map]; exact le_big9 hl)]
theorem gEq_strs {x y : Str} {b : Bool} (h : ((x.cps.all (· < 0x110000) && y.cps.all (· < 0x110000)) && ((x == y) == b)) = true) : gEq (.str x) (.str y) = some (.bl b) := by
  have h' := Bool.and_eq_true_iff.mp h
  have h2 : (x == y) = b := by simpa using h'.2
  unfold gEq
  rw [okD_str, okD_str, if_pos h'.1, eqT_str, h2]
theorem mod_nat (z m : Int) (h : 0 < m) : ∃ k : Nat, z % m = (k : Int) ∧ (k : Int) < m :=
  ⟨(z % m).toNat, (Int.toNat_of_nonneg (Int.emod_nonneg _ (by omega))).symm, by rw [Int.toNat_of_nonneg (Int.emod_nonneg _ (by omega))]; exact Int.emod_lt_of_pos _ h⟩
theorem gDiv_ok {a b : Int} (h1 : 0 < b) (h2 : b < 1073741824) : gDiv (.int a) (.int b) = some (.int (a / b)) := by
  unfold gDiv
  simp [h1, h2]
theorem gMod_ok {a b : Int} (h1 : 0 < b) : gMod (.int a) (.int b) = some (.int (a % b)) := by
  unfold gMod
  simp [h1]
theorem gMulL {a b : Int} (h1 : -1000 ≤ a) (h2 : a ≤ 1000) : gMul (.int a) (.int b) = some (.int (a * b)) := by
  show (if (-(2 ^ 64) < a ∧ a < 2 ^ 64) ∨ (-(2 ^ 64) < b ∧ b < 2 ^ 64) then some (T.int (a * b)) else none) = _
  rw [if_pos (.inl ⟨by omega, by omega⟩)]
theorem gMulR {a b : Int} (h1 : -1000 ≤ b) (h2 : b ≤ 1000) : gMul (.int a) (.int b) = some (.int (a * b)) := by
  show (if (-(2 ^ 64) < a ∧ a < 2 ^ 64) ∨ (-(2 ^ 64) < b ∧ b < 2 ^ 64) then some (T.int (a * b)) else none) = _
  rw [if_pos (.inr ⟨by omega, by omega⟩)]
end VS

/-! comprehensions: sets of ints (their number), dicts with keys that are ints or texts -/
namespace VS
open PySem PySem.Spec PyProof.Rows L2 Evl

abbrev setNew (w : World) : Obj := { cls := .type "set", dict := none, data := .set #[] 0 (.fresh 0 0 (!w.params.followText "set-order")) }
section
variable {X : Cx}
/-- an int goes into the set at D -/
theorem setI_put {pins : List (Addr × Obj)} {σ : L2.St} {H : Hp} {s : Shared} {E : Value → Shared → Prop} {D : Addr} {S : Int → Bool} {n : Nat} {c : Int} {u : Value} {Q : Value → Shared → Prop} (I : Inv X pins σ H s) (hD : H D = some (SetO X.w D S n)) (room : n + 1 < scanBound) (ru : RelV (.int c) u)
    (h : ∀ s', Inv X pins σ (upd H D (SetO X.w D (fun j => S j || decide (j = c)) (if S c = true then n else n + 1))) s' → Q .none s') : wpAny (model X.prog X.w) X.A (call (.builtin "set.add") [.ref D, u]) Q E s := by
  obtain ⟨tk, eu⟩ := ru
  rw [eu]
  refine setR_add (setO_get I hD) room fun h' same made => h _ ?_
  obtain ⟨o, es, ep, tb, at_, more⟩ := made
  exact I.write (e := D) (t' := s.toks + 1) (by rw [hD]; trivial) (.inl rfl) (fun b q ne hq => (same.2 b ne).trans hq) ⟨o, at_⟩ (setO_new ⟨o, es, ep, tb, at_, more⟩)
/-- {elt for target in iter if ..}, its elements ints; D the set -/
def tScN (w : World) (wi : TI) (g : TG) (tt : TT) (te : TE) (vs : List Nat) : TE := fun σ H Q => wi σ H fun J H1 => ∀ D, H1 D = none →
  ∃ W : Nat → Nat → Hp → Prop, (∃ m, W 0 m (upd H1 D (SetO w D (fun _ => false) 0))) ∧
    ∀ i m H, W i m H → (J.stop i H ∧ Q (.ref D) H) ∨ (J.go i H ∧ ∃ Nx : Hp → Prop, (∀ H', Nx H' → ∃ m', m' < m ∧ W (i + 1) m' H') ∧
      ∀ x H', J.yld i H x H' → g x (L2.wipe σ vs) H' fun σ2 H2 => L2.wipe σ2 vs = L2.wipe σ vs ∧ tt σ2 H2 fun b H3 => if b = true then
        te σ2 H3 fun y H4 => ∃ (c : Int) (S : Int → Bool) (n : Nat), y = .int c ∧ H4 D = some (SetO w D S n) ∧ n + 1 < scanBound ∧
          Nx (upd H4 D (SetO w D (fun j => S j || decide (j = c)) (if S c = true then n else n + 1))) else Nx H3)
theorem pe_scN {elt tg iter : Expr} {ifs : List Expr} {scope : Scope} {own : List (Str × Nat)} {pos : Pos} {wi : TI} {g : TG} {tt : TT} {te : TE} (hc : X.calm = true) (hN : X.N.Nodup) (hi : PI X tg iter wi) (ok : BlkOk X.N X.env.scope scope own)
    (hg : ∀ (s : Shared) (H : Hp) (C : Addr) (cl : List (Str × Addr)) (fp : List Addr), PG (X.blk s H scope (compEnvC scope cl C X.env) fp) tg g)
    (ht : ∀ (s : Shared) (H : Hp) (C : Addr) (cl : List (Str × Addr)) (fp : List Addr), PTs (X.blk s H scope (compEnvC scope cl C X.env) fp) ifs tt)
    (he : ∀ (s : Shared) (H : Hp) (C : Addr) (cl : List (Str × Addr)) (fp : List Addr), PE (X.blk s H scope (compEnvC scope cl C X.env) fp) elt te)
    (hs : ∀ x, foldedSetIterable iter X.env x = pure x := by intro _; rfl) : PE X (.SetComp elt [⟨tg, iter, ifs, 0⟩] scope pos) (tScN X.w wi g tt te (own.map (·.2))) := by
  refine ⟨fun pins s σ H Q I h => ?_⟩
  rw [PpSet.eval_SetComp]
  have freeOk : ∀ y ∈ scope.names, y.2 = .free → ∃ c, X.env.cells.lookup y.1 = some c := fun y my ey => (ok.free y my ey).elim (fun z => I.ok.has _ (.inl z)) fun z => I.ok.has _ (.inr z)
  refine wpAny_comprehension_free rfl hs (closure_ok freeOk) ok.kind (fun y my ey => by rw [ok.uniq y my, ey]) (thn (hi.run pins s σ H _ I h) fun _ _ walked => thn walked fun _ s2 w2 => ?_)
  obtain ⟨it, fp, tn, J, H2, e0, I2, T, turned, fpOk, q⟩ := w2
  subst e0
  refine PpSet.newSet_ok (newEnv_comp ?_)
  generalize eD : s2.heap.objs.size = D
  have noneD : H2 D = none := I2.hok.fresh (by rw [eD]; exact Nat.le_refl _)
  obtain ⟨W, ⟨m0, w0⟩, turn⟩ := q D noneD
  generalize es3 : ({ s2 with heap := s2.heap.push (setNew X.w) } : Shared) = s3
  have hp3 : s3.heap = s2.heap.push (setNew X.w) := by rw [← es3]
  generalize eH3 : upd H2 D (SetO X.w D (fun _ => false) 0) = H3 at w0
  have I3 : Inv X pins σ H3 s3 := by
    rw [← es3, ← eH3, ← eD]
    exact I2.laid (t' := s2.toks) (fun b o z => Heap.get?_push_of_some _ z) (Nat.le_refl _) (setO_new (setR_fresh X.w))
  have small : ∀ b ∈ fp, b < s2.heap.objs.size := fun b mb => let ⟨_, z, _⟩ := T.obj _ _ turned b mb; Heap.lt_size z
  have fp3 : ∀ b ∈ fp, FpOk X pins H3 b ∧ b < s3.heap.objs.size := fun b mb => by
    have lt := small b mb
    have ne : b ≠ D := by rw [← eD]; exact Nat.ne_of_lt lt
    refine ⟨⟨by rw [← eH3, upd_ne ne]; exact (fpOk b mb).1, (fpOk b mb).2⟩, ?_⟩
    rw [hp3, Heap.size_push]
    exact Nat.lt_succ_of_lt lt
  have turned3 : tn 0 s3.heap := T.keep _ _ _ turned fun b _ o z => by rw [hp3]; exact Heap.get?_push_of_some _ z
  have I4 := block_start I3 ok hN fp3
  have none3 : ∀ b ∈ fp, H3 b = none := fun b mb => (fp3 b mb).1.1
  have kg := hg s3 H3 s3.heap.objs.size (cellsFrom (s3.heap.objs.size + 1) scope.names (cloFrom X.env.cells scope.names [])) fp
  have kt := ht s3 H3 s3.heap.objs.size (cellsFrom (s3.heap.objs.size + 1) scope.names (cloFrom X.env.cells scope.names [])) fp
  have ke := he s3 H3 s3.heap.objs.size (cellsFrom (s3.heap.objs.size + 1) scope.names (cloFrom X.env.cells scope.names [])) fp
  generalize ece : compEnvC scope (cellsFrom (s3.heap.objs.size + 1) scope.names (cloFrom X.env.cells scope.names [])) s3.heap.objs.size X.env = ce at I4 kg kt ke
  have loc : ce.locals = s3.heap.objs.size := by rw [← ece]; rfl
  have done : ∀ C s' m H', Inv X pins σ H' s' → Q (.ref D) H' → s'.heap.Ns C m → FpOk X pins H' C → compPost (model X.prog X.w) X.A X.xe none (EP X pins σ Q) (.ref D) C (.ok .next) s' := fun C s' m H' J' qd hn f =>
    ⟨m, hn, fun h'' sb => ⟨.ref D, H', J'.turned (t' := s'.toks) (fun b o hb z => (sb.2 b hb).trans z) f.1 f.2.1 f.2.2.2.1 f.2.2.2.2.1 f.2.2.2.2.2, rfl, qd⟩⟩
  have goalIs : codeAny (model X.prog X.w) X.A (.compStart (.SetComp elt [⟨tg, iter, ifs, 0⟩] scope pos) 0 (.ref it) (.ref D) ce) (compPost (model X.prog X.w) X.A X.xe none (EP X pins σ Q) (.ref D) s3.heap.objs.size) { s3 with heap := pushCells (s3.heap.push { cls := .type "dict", data := .dict #[] }) scope.names } := by
    generalize es4 : ({ s3 with heap := pushCells (s3.heap.push { cls := .type "dict", data := .dict #[] }) scope.names } : Shared) = s4
    have I4' : Inv (X.blk s3 H3 scope ce fp) [] (L2.wipe σ (own.map (·.2))) H3 s4 := by rw [← es4]; exact I4
    have turned4 : tn 0 s4.heap := T.keep _ _ _ turned3 fun b _ o z => by rw [← es4]; exact pushCells_keeps _ _ _ _ (Heap.get?_push_of_some _ z)
    have still : ∀ {σ' : L2.St} {H' : Hp} {s' : Shared}, Inv (X.blk s3 H3 scope ce fp) [] σ' H' s' → (∀ b ∈ fp, H' b = none) → ∀ b ∈ fp, FpOk (X.blk s3 H3 scope ce fp) [] H' b := fun {σ' H' s'} J' n' b mb =>
      ⟨n' b mb, (J'.ok.exf b mb).1, J'.ok.exfs b mb, .inl mb, fun x c z => (J'.ok.exf b mb).2 x c z, fun p mp => by simp at mp⟩
    have rounds : codeAny (model X.prog X.w) X.A (.compLoop (.SetComp elt [⟨tg, iter, ifs, 0⟩] scope pos) 0 (.ref it) (.ref D) ce) (compPost (model X.prog X.w) X.A X.xe none (EP X pins σ Q) (.ref D) s3.heap.objs.size) s4 := by
      refine PpSet.compLoopS_any (fun n s' => ∃ i H', Inv (X.blk s3 H3 scope ce fp) [] (L2.wipe σ (own.map (·.2))) H' s' ∧ tn i s'.heap ∧ (∀ b ∈ fp, H' b = none) ∧ W i n H') ?_ m0 ⟨0, H3, I4', turned4, none3, w0⟩
      rintro n s5 ⟨i, H5, I5, tn5, none5, w5⟩
      rcases turn i n H5 w5 with ⟨stop, last⟩ | ⟨go, Nx, less, each⟩
      · refine thnF (T.done (X.blk s3 H3 scope ce fp) rfl rfl rfl hc i [] s5 _ H5 (fun _ _ => False) I5 (still I5 none5) tn5 stop) fun r s6 ⟨er, I6⟩ => ?_
        subst er
        have I7 : Inv X pins σ H5 s6 := I3.call' (ch := fp) I6.os I6.base I6.hok I6.bare fun b mb => ⟨(fp3 b mb).1.2.2.2.1, (fp3 b mb).1.2.1, (fp3 b mb).1.2.2.2.2.1, (fp3 b mb).1.2.2.2.2.2⟩
        have noneC : H5 ce.locals = none := I6.free
        obtain ⟨m, nsm, _⟩ := I6.loc
        have nsm' : s6.heap.Ns ce.locals m := nsm
        rw [loc] at noneC nsm'
        exact done _ s6 m H5 I7 last nsm' (I3.fpOk (Nat.le_refl _) noneC)
      · refine thnF (T.item (X.blk s3 H3 scope ce fp) rfl rfl rfl hc i [] s5 _ H5 (fun _ _ => False) I5 (still I5 none5) tn5 go) fun r s6 ⟨u, er, h6⟩ => ?_
        subst er
        refine thnF h6 fun _ s7 ⟨x, H7, I7, r7, y7, tn7, none7⟩ => ?_
        refine thnF (kg.run _ s7 _ H7 x u _ (I7.pinned (still I7 none7) (T.obj _ _ tn7)) r7 (each x H7 y7)) fun _ s8 ⟨σ8, H8, I8, same8, q8⟩ => ?_
        refine thnF (kt.run _ s8 σ8 H8 _ I8 q8) fun b s9 ⟨H9, I9, q9⟩ => ?_
        have nextTurn : ∀ {s' : Shared} {H' : Hp}, Inv (X.blk s3 H3 scope ce fp) ([] ++ pinsAt fp s7.heap) σ8 H' s' → Nx H' → ∃ m, m < n ∧ ∃ i H', Inv (X.blk s3 H3 scope ce fp) [] (L2.wipe σ (own.map (·.2))) H' s' ∧ tn i s'.heap ∧ (∀ b ∈ fp, H' b = none) ∧ W i m H' := fun {s' H'} J' nx => by
          obtain ⟨m', lt, w'⟩ := less H' nx
          have held : ∀ b ∈ fp, ∀ o, s7.heap.get? b = some o → s'.heap.get? b = some o ∧ H' b = none := fun b mb o z =>
            ⟨(J'.pin (b, o) (List.mem_append_right _ (List.mem_append_right _ (mem_pinsAt mb z)))).1, (J'.pin (b, o) (List.mem_append_right _ (List.mem_append_right _ (mem_pinsAt mb z)))).2.1⟩
          refine ⟨m', lt, i + 1, H', (J'.unpinned (pins := [])).weak (by rw [← same8, wipe_length]) (fun j v z => by rw [← same8] at z; exact (wipe_some z).1), T.keep _ _ _ tn7 fun b mb o z => (held b mb o z).1, fun b mb => ?_, w'⟩
          obtain ⟨o, z, _⟩ := T.obj _ _ tn7 b mb
          exact (held b mb o z).2
        cases b with
        | false => simpa using nextTurn I9 (by simpa using q9)
        | true =>
          simp only [if_true] at q9 ⊢
          exact thnF (ke.run _ s9 σ8 H9 _ I9 q9) fun z s10 ⟨yv, H10, I10, r10, c, S0, n0, ey, atD, room, nx⟩ =>
            setI_put (X := X.blk s3 H3 scope ce fp) I10 atD room (by rw [← ey]; exact r10) fun s11 I11 => nextTurn I11 nx
    exact PpSet.codeAny_compStart_set rounds (T.self X.A 0 _ _ _ turned4 rounds)
  rw [← ece] at goalIs
  exact goalIs
end
end VS

namespace VS
open PySem PySem.Spec PyProof.Rows L2 Evl

/-! ### a comprehension that fills a new object -/
section
variable {C : KM} {B : BS} {σ : L2.St}
theorem tg_imp {K : PySem.W.Frag} {g : Tg} {v : V} {σ : L2.St} {H : Hp} {P P' : L2.St → Hp → Prop} (im : ∀ a b, P a b → P' a b) (h : tG K g v σ H P) : tG K g v σ H P' := by
  cases g with
  | nm i => exact im _ _ h
  | tp is =>
    obtain ⟨a, xs, e, h1, h2, h3⟩ := h
    refine ⟨a, xs, e, h1, h2, ?_⟩
    have names : ∀ {is : List Nat} {ws : List V} {σ : L2.St}, gNames is ws σ H P → gNames is ws σ H P' := fun {is} => by
      induction is with
      | nil => intro ws σ ⟨a, b⟩; exact ⟨a, im _ _ b⟩
      | cons i is ih => intro ws σ ⟨v, r, e, q⟩; exact ⟨v, r, e, ih (ws := r) (σ := σ.set i (some v)) q⟩
    exact names h3
theorem comp_gen {H1 G1 : Hp} {ρ : Ev'} {J : It} {l : List T} {g : Tg} {fc fe : FE} {vs : List Nat} {D : Addr} {o0 : HO} {Qd : Hp → Prop} {STEP : L2.St → Hp → (Hp → Prop) → Prop} (A : Hp → List T → HO → Prop) (hA : ∀ G G' ts o, Ex G G' → A G ts o → A G' ts o)
    (hw : ∀ i ∈ tgs g, i ∈ vs) (wk : Wk C J G1 l) (s1 : SR C B σ H1 ρ G1) (hD : H1 D = none) (h0 : A G1 [] o0) {ts : List T} (ec : compF g fc fe l (wipeE ρ vs) = .ok ts) (hlen : ts.length ≤ 99999)
    (hstep : ∀ σ3 H4 ρ1 G4 t tacc acc Nx, SR C B σ3 H4 ρ1 G4 → fe ρ1 = .ok t → H4 D = some acc → A G4 tacc acc → tacc.length < 99999 → (∃ r, tacc ++ (t :: r) = ts) →
      (∀ H5 G5 acc', Gr H4 G4 H5 G5 → H5 D = some acc → A G5 (tacc ++ [t]) acc' → Nx (upd H5 D acc')) → STEP σ3 H4 Nx)
    (hfin : ∀ H' G' acc, Gr H1 G1 H' G' → H' D = some acc → G' D = none → A G' ts acc → Qd H') :
    ∃ W : Nat → Nat → Hp → Prop, (∃ m, W 0 m (upd H1 D o0)) ∧ ∀ i m H, W i m H → (J.stop i H ∧ Qd H) ∨ (J.go i H ∧ ∃ Nx : Hp → Prop, (∀ H', Nx H' → ∃ m', m' < m ∧ W (i + 1) m' H') ∧
      ∀ x H', J.yld i H x H' → tG C.K g x (L2.wipe σ vs) H' fun σ2 H2 => L2.wipe σ2 vs = L2.wipe σ vs ∧ tMT C B W0 fc σ2 H2 fun b H3 => if b = true then STEP σ2 H3 Nx else Nx H3) := by
  have sw := s1.wipe vs
  have hDB : B.1 D = none := fresh_back s1.gr.eh hD
  have hDG : G1 D = none := ex_none s1.exGH hD
  have notOwn : ∀ (i : Nat) (t : T), (wipeE ρ vs)[i]? = some (.ow t) → (L2.wipe σ vs)[i]? ≠ some (some (.ref D)) := fun i t e ea => by
    obtain ⟨a, o, q1, _, q3, _⟩ := sw.ow i t e
    rw [q1] at ea
    cases ea
    rw [hD] at q3
    cases q3
  refine ⟨fun i m H' => m = l.length - i ∧ i ≤ l.length ∧ ∃ G' acc tacc rest, SR C B (L2.wipe σ vs) H' (wipeE ρ vs) G' ∧ Gr H1 G1 H' G' ∧ G' D = none ∧ H' D = some acc ∧ A G' tacc acc ∧ compF g fc fe (l.drop i) (wipeE ρ vs) = .ok rest ∧ tacc ++ rest = ts,
    ⟨_, rfl, Nat.zero_le _, G1, o0, [], ts, sw.beside hDB hDG notOwn (sw.dpFree (Gr.refl sw.exGH) hD), Gr.own s1.exGH hD, hDG, upd_same, h0, by rw [List.drop_zero]; exact ec, rfl⟩, ?_⟩
  rintro i m H' ⟨rfl, hi, G', acc, tacc, rest, sr, gr, gD, hA', isA, er, et⟩
  by_cases hlt : i < l.length
  · rw [List.drop_eq_getElem_cons hlt] at er
    unfold compF at er
    refine .inr ⟨wk.go i H' (gr.eg.trans sr.exGH) hlt, fun H2 => i + 1 ≤ l.length ∧ ∃ G' acc tacc rest, SR C B (L2.wipe σ vs) H2 (wipeE ρ vs) G' ∧ Gr H1 G1 H2 G' ∧ G' D = none ∧ H2 D = some acc ∧ A G' tacc acc ∧ compF g fc fe (l.drop (i + 1)) (wipeE ρ vs) = .ok rest ∧ tacc ++ rest = ts,
      fun H2 ⟨h1, h2⟩ => ⟨l.length - (i + 1), by omega, rfl, h1, h2⟩, fun x H2 y => ?_⟩
    obtain ⟨G2, g2, ix⟩ := wk.yld i H' G' x H2 l[i] gr.eg sr.exGH (List.getElem?_eq_getElem hlt) y
    have s2 := sr.ext g2
    have gD2 : G2 D = none := g2.sep _ _ gD hA'
    have hA2 := g2.eh _ _ hA'
    cases est : setT g l[i] (wipeE ρ vs) with
    | none =>
      simp only [est] at er
      cases er
    | some ρ1 =>
      simp only [est] at er
      have base : tG C.K g x (L2.wipe σ vs) H2 (fun σ3 H3 => H3 = H2 ∧ SR C B σ3 H3 ρ1 G2) := tg_of (C := C) s2 ix est fun σ3 s3 => ⟨rfl, s3⟩
      refine tg_imp (fun σ3 H3 ⟨⟨kl, kj⟩, eH, s3⟩ => ?_) (tg_keep base)
      subst eH
      refine ⟨(wipe_same (σ := L2.wipe σ vs) kl.symm fun j hj => kj j fun z => hj (hw j z)).trans (wipe_same (wipe_length σ vs).symm fun j hj => by rw [wipe_get, if_neg hj]), ρ1, G2, s3, ?_⟩
      cases efc : fc ρ1 with
      | ok t =>
        simp only [efc] at er
        cases t with
        | bl b =>
          intro H4 G4 g4
          have s4 := s3.ext g4
          have gD4 : G4 D = none := g4.sep _ _ gD2 hA2
          have hA4 := g4.eh _ _ hA2
          have sr4 := sr.ext (g2.trans g4)
          cases b with
          | true =>
            cases efe : fe ρ1 with
            | ok t =>
              simp only [efe] at er
              cases ec2 : compF g fc fe (l.drop (i + 1)) (wipeE ρ vs) with
              | ok r2 =>
                rw [ec2] at er
                have er' : (Res.ok (t :: r2) : Res (List T)) = .ok rest := er
                cases er'
                have la : tacc.length + (r2.length + 1) = ts.length := by rw [← et, List.length_append, List.length_cons]
                refine iteT (hstep σ3 H4 ρ1 G4 t tacc acc _ s4 efe hA4 (hA _ _ _ _ (g2.eg.trans g4.eg) isA) (by omega) ⟨r2, et⟩ fun H5 G5 acc' g5 hA5 isA5 => ?_)
                have gD5 : G5 D = none := g5.sep _ _ gD4 hA4
                have sr5 := sr4.ext g5
                have gg := ((gr.trans g2).trans g4).trans g5
                exact ⟨hlt, G5, acc', tacc ++ [t], r2, sr5.beside hDB gD5 notOwn (sw.dpFree gg hD), ⟨Ex.mut gg.eh hD, gg.eg, Ex.mut gg.gh gD5, gg.sep⟩, gD5, upd_same, isA5, rfl, by rw [List.append_assoc]; exact et⟩
              | ex x q => rw [ec2] at er; cases er
              | bad => rw [ec2] at er; cases er
            | ex x q => simp only [efe] at er; cases er
            | bad => simp only [efe] at er; cases er
          | false =>
            exact iteF ⟨hlt, G4, acc, tacc, rest, sr4, (gr.trans g2).trans g4, gD4, hA4, hA _ _ _ _ (g2.eg.trans g4.eg) isA, er, et⟩
        | _ => cases er
      | ex x q => simp only [efc] at er; cases er
      | bad => simp only [efc] at er; cases er
  · have e : i = l.length := by omega
    subst e
    rw [List.drop_length] at er
    have er' : (Res.ok [] : Res (List T)) = .ok rest := er
    cases er'
    rw [List.append_nil] at et
    subst et
    exact .inl ⟨wk.stop H' (gr.eg.trans sr.exGH), hfin H' G' acc gr hA' gD isA⟩
end
theorem compF_noex {g : Tg} {fc fe : FE} {ρ : Ev'} : ∀ (l : List T) (x : Str) (q : List T), compF g fc fe l ρ ≠ .ex x q
  | [], x, q, z => by cases z
  | a :: r, x, q, z => by
    unfold compF at z
    split at z
    · cases z
    · split at z
      · split at z
        · cases er : compF g fc fe r ρ with
          | ok w => rw [er] at z; cases z
          | ex x' q' => exact compF_noex r x' q' er
          | bad => rw [er] at z; cases z
        · cases z
      · exact compF_noex r x q z
      · cases z

/-! ### len({e for target in iter if ..}), the elements ints -/
def ints? : List T → Option (List Int)
  | [] => some []
  | .int i :: r => (ints? r).map (i :: ·)
  | _ => none
def nub (ks : List Int) : List Int := ks.foldl (fun a k => if k ∈ a then a else a ++ [k]) []
theorem nub_snoc (ks : List Int) (c : Int) : nub (ks ++ [c]) = if c ∈ nub ks then nub ks else nub ks ++ [c] := by
  unfold nub
  rw [List.foldl_append]
  rfl
theorem mem_foldl (ks : List Int) (j : Int) : ∀ a : List Int, j ∈ ks.foldl (fun a k => if k ∈ a then a else a ++ [k]) a ↔ j ∈ a ∨ j ∈ ks := by
  induction ks with
  | nil => intro a; simp
  | cons k r ih =>
    intro a
    rw [List.foldl_cons, ih]
    by_cases e : k ∈ a
    · rw [if_pos e, List.mem_cons]
      constructor
      · rintro (h | h)
        · exact .inl h
        · exact .inr (.inr h)
      · rintro (h | rfl | h)
        · exact .inl h
        · exact .inl e
        · exact .inr h
    · rw [if_neg e, List.mem_append, List.mem_singleton, List.mem_cons, or_assoc]
theorem mem_nub (ks : List Int) (j : Int) : j ∈ nub ks ↔ j ∈ ks := by
  unfold nub
  rw [mem_foldl]
  simp
theorem ints_app : ∀ {ts : List T} {ks : List Int} {c : Int}, ints? ts = some ks → ints? (ts ++ [.int c]) = some (ks ++ [c])
  | [], ks, c, h => by cases h; rfl
  | t :: ts, ks, c, h => by
    cases t with
    | int i =>
      have h' : (ints? ts).map (i :: ·) = some ks := h
      cases q : ints? ts with
      | none => rw [q] at h'; cases h'
      | some r =>
        rw [q] at h'
        cases h'
        show (ints? (ts ++ [.int c])).map (i :: ·) = _
        rw [ints_app q]
        rfl
    | _ => cases h
theorem ints_pre : ∀ {ts us : List T} {ks : List Int}, ints? (ts ++ us) = some ks → ∃ k1 k2, ints? ts = some k1 ∧ ints? us = some k2
  | [], us, ks, h => ⟨[], ks, rfl, h⟩
  | t :: ts, us, ks, h => by
    cases t with
    | int i =>
      have h' : (ints? (ts ++ us)).map (i :: ·) = some ks := h
      cases q : ints? (ts ++ us) with
      | none => rw [q] at h'; cases h'
      | some r =>
        obtain ⟨k1, k2, e1, e2⟩ := ints_pre q
        exact ⟨i :: k1, k2, by show (ints? ts).map (i :: ·) = _; rw [e1]; rfl, e2⟩
    | _ => cases h
def eSetLen (fi : FI) (g : Tg) (own : List Nat) (fc fe : FE) : FE := fun ρ => (fi ρ).bind fun l => (compF g fc fe l (wipeE ρ own)).bind fun ts => match ints? ts with
  | some ks => if ts.length ≤ 1000 then .ok (.int (nub ks).length) else .bad
  | none => .bad
/-- whatever is made so far is ints, if all is -/
def isInt : T → Bool
  | .int _ => true
  | _ => false
def rLenSet (w : World) : List V → Hp → VK → Prop := fun vs H Q => ∃ (a : Addr) (S : Int → Bool) (n : Nat), vs = [.ref a] ∧ H a = some (SetO w a S n) ∧ n ≤ 1000 ∧ Q (.int n) H
theorem c_lenSet {X : Cx} : CallR X (.builtin "len") (rLenSet X.w) := by
  intro pins s σ H xs us Q I r h
  obtain ⟨a, S, n, rfl, hH, hn, q⟩ := h
  cases r with
  | cons r rr =>
    cases rr
    cases r
    obtain ⟨o, es, ep, t, ho, hex, hd, _, _, _, _, hf, hsz, _⟩ := setO_get I hH
    refine call_len_set ho hex hd hf (by omega) ?_
    exact ⟨.int n, H, I.tok _, ⟨_, by rw [hsz]⟩, q⟩
section
variable {X : Cx} {B : BS} {W : WX} {tg iter elt : Expr} {ifs : List Expr} {scope : Scope} {own : List (Str × Nat)} {pos p p2 : Pos} {fi : FI} {g : Tg} {fc fe : FE}
theorem d_lenSet (hgl : Gl X "len") (hml : X.mg "len" = none) (hc : X.calm = true) (hN : X.N.Nodup) (hi : DI X B W tg iter fi) (ok : BlkOk X.N X.env.scope scope own) (hw : ∀ i ∈ tgs g, i ∈ own.map (·.2))
    (hg : ∀ (s : Shared) (H : Hp) (C : Addr) (cl : List (Str × Addr)) (fp : List Addr), DG (X.blk s H scope (compEnvC scope cl C X.env) fp) tg g)
    (ht : ∀ (s : Shared) (H : Hp) (C : Addr) (cl : List (Str × Addr)) (fp : List Addr), DTs (X.blk s H scope (compEnvC scope cl C X.env) fp) B W0 ifs fc)
    (he : ∀ (s : Shared) (H : Hp) (C : Addr) (cl : List (Str × Addr)) (fp : List Addr), DE (X.blk s H scope (compEnvC scope cl C X.env) fp) B W0 .E elt fe) (hs : ∀ x, foldedSetIterable iter X.env x = pure x := by intro _; rfl)
    (hst : starEach [.SetComp elt [⟨tg, iter, ifs, 0⟩] scope p2] X.env = (false, eval (.SetComp elt [⟨tg, iter, ifs, 0⟩] scope p2) X.env) :: starEach [] X.env := by rfl) :
    DE X B W .E (.Call (.Name "len" p) [.SetComp elt [⟨tg, iter, ifs, 0⟩] scope p2] [] pos) (eSetLen fi g (own.map (·.2)) fc fe) := by
  refine PE.imp (pe_callB c_lenSet hgl hml PySem.boot_len (pa_cons (pe_scN (g := tG X.K g) (tt := tMT (km X) B W0 fc) (te := tM (km X) B .E W0 fe) hc hN hi ok hg ht he hs) pa_nil hst) (by decide) (by decide) hst rfl) fun σ H Q ⟨ρ, G, s, q⟩ => ?_
  refine ⟨ρ, G, s, ?_⟩
  unfold eSetLen at q
  cases ei : fi ρ with
  | bad => rw [ei] at q; exact q
  | ex x p' => rw [ei] at q; exact q
  | ok l =>
    rw [ei] at q
    intro J H1 G1 g1 wk D hD
    have q1 : Post (km X) .E W σ H G ((compF g fc fe l (wipeE ρ (own.map (·.2)))).bind fun ts => match ints? ts with | some ks => if ts.length ≤ 1000 then .ok (.int (nub ks).length) else .bad | none => .bad) Q := q
    cases ec : compF g fc fe l (wipeE ρ (own.map (·.2))) with
    | bad => rw [ec] at q1; exact q1.elim
    | ex x p' => exact (compF_noex _ _ _ ec).elim
    | ok ts =>
      rw [ec] at q1
      have q2 : Post (km X) .E W σ H G (match ints? ts with | some ks => if ts.length ≤ 1000 then .ok (.int (nub ks).length) else .bad | none => .bad) Q := q1
      cases et : ints? ts with
      | none => rw [et] at q2; exact q2.elim
      | some ks =>
        rw [et] at q2
        have q3 : Post (km X) .E W σ H G (if ts.length ≤ 1000 then .ok (.int (nub ks).length) else .bad) Q := q2
        split at q3
        · rename_i hl
          have s1 := s.ext g1
          refine comp_gen (C := km X) (Qd := fun H' => tNil σ H' fun xs H2 => rLenSet X.w (.ref D :: xs) H2 Q) (fun _ us o => ∃ js, ints? us = some js ∧ (nub js).length ≤ us.length ∧ o = SetO X.w D (fun j => decide (j ∈ nub js)) (nub js).length) (fun G G' us o _ h => h) hw wk s1 hD ?_ ec (le_big9 hl) ?_ ?_
          · exact ⟨[], rfl, Nat.le_refl _, by unfold nub; simp⟩
          · intro σ3 H4 ρ1 G4 t tacc acc Nx s3 efe hD4 hA hlt hpre nx
            refine ⟨ρ1, G4, s3, ?_⟩
            rw [efe]
            intro v H5 G5 g5 iv
            obtain ⟨r, hr⟩ := hpre
            obtain ⟨js, hj, hjl, rfl⟩ := hA
            have hall : (tacc ++ [t]).length ≤ 1000 ∧ ∃ c, t = .int c := by
              rw [← hr] at hl et
              rw [List.length_append, List.length_cons] at hl
              refine ⟨by rw [List.length_append, List.length_singleton]; omega, ?_⟩
              obtain ⟨_, k2, _, e2⟩ := ints_pre et
              cases t with
              | int c => exact ⟨c, rfl⟩
              | _ => cases e2
            obtain ⟨hl2, c, rfl⟩ := hall
            have ev : v = .int c := Md.int1 iv
            subst ev
            rw [List.length_append, List.length_singleton] at hl2
            refine ⟨c, _, _, rfl, g5.eh _ _ hD4, by unfold scanBound; omega, ?_⟩
            refine nx H5 G5 _ g5 (g5.eh _ _ hD4) ⟨js ++ [c], ints_app hj, ?_, ?_⟩
            · rw [nub_snoc, List.length_append, List.length_singleton]
              split
              · omega
              · rw [List.length_append, List.length_singleton]; omega
            · have e1 : (fun j => decide (j ∈ nub js) || decide (j = c)) = fun j => decide (j ∈ nub (js ++ [c])) := by
                funext j
                rw [← Bool.decide_or]
                refine decide_eq_decide.mpr ?_
                rw [mem_nub, mem_nub, List.mem_append, List.mem_singleton]
              have e2 : (if decide (c ∈ nub js) = true then (nub js).length else (nub js).length + 1) = (nub (js ++ [c])).length := by
                rw [nub_snoc]
                by_cases m : c ∈ nub js
                · rw [if_pos (decide_eq_true m), if_pos m]
                · rw [if_neg (by simpa using m), if_neg m, List.length_append, List.length_singleton]
              rw [e1, e2]
          · intro H' G' acc gr hA' hn ⟨js, hj, hjl, e⟩
            subst e
            rw [et] at hj
            cases hj
            exact ⟨D, _, _, rfl, hA', by omega, q3 _ H' G' (g1.trans gr) (show VS.Is (km X) G' (.int (nub ks).length) _ from Is.intI)⟩
        · exact q3.elim
end
end VS

/-! dicts of one's own whose keys are tuples -/
namespace VS
open PySem PySem.Spec PyProof.Rows L2 Evl

/-! ### keys -/
mutual
theorem nest_of {X : Cx} {pins : List (Addr × Obj)} {σ : L2.St} {H : Hp} {s : Shared} (I : Inv X pins σ H s) : ∀ (t : T) (v : V) (u : Value) (k : NestedKey), Is (km X) H t v → RelV v u → nk? t = some k → NestedIs s.heap k u
  | .non, v, u, k, h, r, e => by
    unfold Is at h; unfold nk? at e
    subst h; cases e
    cases (show u = Value.none from r)
    exact .none
  | .int i, v, u, k, h, r, e => by
    unfold Is at h; unfold nk? at e
    subst h; cases e
    obtain ⟨t, rfl⟩ := (show ∃ t, u = Value.int i t from r)
    exact .int i t
  | .str i, v, u, k, h, r, e => by
    unfold Is at h; unfold nk? at e
    subst h; cases e
    obtain ⟨t, rfl⟩ := (show ∃ t, u = Value.str i t from r)
    exact .text i t
  | .tup l, v, u, k, h, r, e => by
    unfold Is at h; unfold nk? at e
    obtain ⟨a, vs, rfl, h2, h3⟩ := h
    cases (show u = Value.ref a from r)
    cases q : nks? l with
    | none => rw [q] at e; cases e
    | some ks =>
      rw [q] at e
      cases e
      obtain ⟨its, rv, ⟨o, k1, k2, n, k3⟩, _⟩ := I.tuple h2
      exact .tup k1 k2 k3 (by simpa using nests_of I l vs its ks h3 rv q)
  | .bl _, _, _, _, _, _, e => by unfold nk? at e; cases e
  | .lst _, _, _, _, _, _, e => by unfold nk? at e; cases e
  | .dic _ _, _, _, _, _, _, e => by unfold nk? at e; cases e
  | .fro _, _, _, _, _, _, e => by unfold nk? at e; cases e
  | .fn _, _, _, _, _, _, e => by unfold nk? at e; cases e
  | .ty _, _, _, _, _, _, e => by unfold nk? at e; cases e
theorem nests_of {X : Cx} {pins : List (Addr × Obj)} {σ : L2.St} {H : Hp} {s : Shared} (I : Inv X pins σ H s) : ∀ (ts : List T) (vs : List V) (us : List Value) (ks : List NestedKey), IsL (km X) H ts vs → Vals vs us → nks? ts = some ks → NestedAll s.heap ks us
  | [], vs, us, ks, h, r, e => by
    unfold IsL at h; unfold nks? at e
    subst h; cases e; cases r
    exact .nil
  | t :: ts, vs, us, ks, h, r, e => by
    unfold IsL at h; unfold nks? at e
    obtain ⟨v, w, rfl, h2, h3⟩ := h
    cases r with
    | cons r1 r2 =>
      cases q1 : nk? t with
      | none => rw [q1] at e; cases e
      | some k =>
        cases q2 : nks? ts with
        | none => rw [q1, q2] at e; cases e
        | some ks' =>
          rw [q1, q2] at e
          cases e
          exact .cons (nest_of I t v _ k h2 r1 q1) (nests_of I ts w _ ks' h3 r2 q2)
end
theorem tk_shape {t : T} {k : NestedKey} (h : tk? t = some k) : ∃ l ks, t = .tup l ∧ nks? l = some ks ∧ k = .tup ks ∧ k.depth ≤ 8 := by
  cases t with
  | tup l =>
    unfold tk? at h
    simp only at h
    cases q : nks? l with
    | none => rw [q] at h; cases h
    | some ks =>
      rw [q] at h
      simp only at h
      split at h
      · rename_i c
        cases h
        exact ⟨l, ks, rfl, q, rfl, c⟩
      · cases h
  | _ => cases h
section
variable {X : Cx} {pins : List (Addr × Obj)} {σ : L2.St} {H G : Hp} {s : Shared}
theorem key_is (I : Inv X pins σ H s) (ex : Ex G H) {t : T} {v : V} {k : NestedKey} (h : Is (km X) G t v) (e : tk? t = some k) : ∃ b, v = .ref b ∧ (nestedKind X.prog X.w).is s.heap k b := by
  obtain ⟨l, ks, rfl, e1, rfl, hd⟩ := tk_shape e
  have h' := Is.mono ex _ _ h
  have h2 := h'
  unfold Is at h2
  obtain ⟨a, vs, rfl, _, _⟩ := h2
  refine ⟨a, rfl, nest_of I (.tup l) _ (.ref a) _ h' rfl ?_, hd⟩
  unfold nk?
  rw [e1]
  rfl
theorem keys_are (I : Inv X pins σ H s) (ex : Ex G H) : ∀ {ks : List T} {xs : List (NestedKey × Addr × Value)}, KeysAre ks xs → IsL (km X) G ks (xs.map fun x => .ref x.2.1) → ∀ x ∈ xs, (nestedKind X.prog X.w).is s.heap x.1 x.2.1
  | [], [], _, _, x, m => by cases m
  | k :: ks, x :: xs, h, i, y, m => by
    unfold KeysAre at h
    cases h with
    | cons h1 h2 =>
      rw [List.map_cons] at i
      unfold IsL at i
      obtain ⟨v, r, e, i1, i2⟩ := i
      obtain ⟨rfl, rfl⟩ := List.cons.inj e
      rcases List.mem_cons.mp m with rfl | m
      · obtain ⟨b, e1, e2⟩ := key_is I ex i1 h1
        cases e1
        exact e2
      · exact keys_are I ex h2 i2 y m
/-- the dict, as the library tells it -/
theorem dt_h (I : Inv X pins σ H s) (ex : Ex G H) {d : Addr} {ks : List T} {xs : List (NestedKey × Addr × Value)} (hd : H d = some (NdO X.w d xs)) (hk : KeysAre ks xs) (hi : IsL (km X) G ks (xs.map fun x => .ref x.2.1)) :
    s.heap.DictOfH (nestedKind X.prog X.w) d xs := by
  obtain ⟨⟨o, es, ep, h1, h2, h3, h4, h5⟩, _⟩ := (show ObjOk X.prog X.w H s.heap d (NdO X.w d xs) from I.hok d _ hd)
  exact ⟨o, es, ep, h1, h2, h3, h4, keys_are I ex hk hi, h5⟩
theorem nd_of {P : Program} {w : World} {H : Hp} {h : Heap} {d : Addr} {xs : List (NestedKey × Addr × Value)} (x : h.DictOfH (nestedKind P w) d xs) : ObjOk P w H h d (NdO w d xs) := by
  obtain ⟨o, es, ep, h1, h2, h3, h4, _, h5⟩ := x
  refine ⟨⟨o, es, ep, h1, h2, h3, h4, h5⟩, ⟨o, h1⟩, fun a b ⟨o', es', ep', k1, k2⟩ k => ⟨o', es', ep', k _ k1, k2⟩⟩
end

/-! ### the trees' table -/
def tkEq (a b : T) : Bool := decide (tk? a = tk? b)
def lookK : List T → List T → T → Option T
  | k :: ks, w :: ws, x => if tkEq k x then some w else lookK ks ws x
  | _, _, _ => none
def putK2 (ks ws : List T) (k w : T) : List T × List T :=
  if ks.any (fun x => tkEq x k) then (ks, List.zipWith (fun x y => if tkEq x k then w else y) ks ws) else (ks ++ [k], ws ++ [w])
theorem Paired.len {α β : Type} {R : α → β → Prop} : ∀ {xs : List α} {ys : List β}, Paired R xs ys → xs.length = ys.length
  | _, _, .nil => rfl
  | _, _, .cons _ r => by rw [List.length_cons, List.length_cons, Paired.len r]
section
variable {C : KM} {G : Hp}
theorem key_any {k : T} {key : NestedKey} (hk : tk? k = some key) : ∀ {ks : List T} {xs : List (NestedKey × Addr × Value)}, KeysAre ks xs → (ks.any fun x => tkEq x k) = (atKey xs key).isSome
  | [], [], _ => rfl
  | t :: ks, x :: xs, h => by
    unfold KeysAre at h
    cases h with
    | cons h1 h2 =>
      rw [List.any_cons, key_any hk h2]
      have e : tkEq t k = decide (x.1 = key) := by
        unfold tkEq
        rw [h1, hk]
        exact decide_eq_decide.mpr ⟨fun z => Option.some.inj z, fun z => by rw [z]⟩
      rw [e]
      unfold atKey
      rw [List.find?_cons]
      by_cases c : x.1 = key
      · rw [decide_eq_true c]
        rfl
      · rw [decide_eq_false c]
        rfl
theorem key_at {k : T} {key : NestedKey} (hk : tk? k = some key) : ∀ {ks ws : List T} {xs : List (NestedKey × Addr × Value)} {vs : List V} {t : T}, KeysAre ks xs → Vals vs (xs.map fun x => x.2.2) → IsL C G ws vs → lookK ks ws k = some t → ∃ p v, atKey xs key = some p ∧ RelV v p.2 ∧ Is C G t v
  | [], _, _, _, _, _, _, _, e => by simp [lookK] at e
  | _ :: _, [], _, _, _, _, _, _, e => by simp [lookK] at e
  | k0 :: ks, w :: ws, [], vs, t, h, _, _, _ => by unfold KeysAre at h; cases h
  | k0 :: ks, w :: ws, x :: xs, vs, t, h, r, i, e => by
    unfold KeysAre at h
    cases h with
    | cons h1 h2 =>
      rw [List.map_cons] at r
      cases r with
      | cons r1 r2 =>
        unfold IsL at i
        obtain ⟨v, vs', e1, i1, i2⟩ := i
        obtain ⟨rfl, rfl⟩ := List.cons.inj e1
        unfold lookK at e
        have eq : tkEq k0 k = decide (x.1 = key) := by
          unfold tkEq
          rw [h1, hk]
          exact decide_eq_decide.mpr ⟨fun z => Option.some.inj z, fun z => by rw [z]⟩
        rw [eq] at e
        by_cases c : x.1 = key
        · rw [decide_eq_true c] at e
          cases e
          exact ⟨x.2, _, by unfold atKey; rw [List.find?_cons, decide_eq_true c]; rfl, r1, i1⟩
        · rw [decide_eq_false c] at e
          obtain ⟨p, v, q1, q2, q3⟩ := key_at hk h2 r2 i2 e
          exact ⟨p, v, by unfold atKey at q1 ⊢; rw [List.find?_cons, decide_eq_false c]; exact q1, q2, q3⟩
theorem put_map {k w : T} {key : NestedKey} {v : V} {u : Value} (hk : tk? k = some key) (ru : RelV v u) (iw : Is C G w v) : ∀ {ks ws : List T} {xs : List (NestedKey × Addr × Value)} {vs : List V}, KeysAre ks xs → Vals vs (xs.map fun x => x.2.2) → IsL C G ws vs →
    KeysAre ks (xs.map (putAt key u)) ∧ (xs.map (putAt key u)).map (fun x => V.ref x.2.1) = xs.map (fun x => V.ref x.2.1) ∧ ∃ vs', Vals vs' ((xs.map (putAt key u)).map fun x => x.2.2) ∧ IsL C G (List.zipWith (fun x y => if tkEq x k then w else y) ks ws) vs'
  | [], ws, [], vs, _, r, i => ⟨.nil, rfl, [], .nil, by
      rw [List.zipWith_nil_left]
      exact IsL.nil⟩
  | k0 :: ks, [], x :: xs, vs, _, r, i => by
    unfold IsL at i
    subst i
    cases r
  | k0 :: ks, w0 :: ws, x :: xs, vs, h, r, i => by
    unfold KeysAre at h
    cases h with
    | cons h1 h2 =>
      rw [List.map_cons] at r
      cases r with
      | cons r1 r2 =>
        unfold IsL at i
        obtain ⟨v0, vs', e1, i1, i2⟩ := i
        obtain ⟨rfl, rfl⟩ := List.cons.inj e1
        obtain ⟨p1, p2, vs2, p3, p4⟩ := put_map hk ru iw h2 r2 i2
        have eq : tkEq k0 k = decide (x.1 = key) := by
          unfold tkEq
          rw [h1, hk]
          exact decide_eq_decide.mpr ⟨fun z => Option.some.inj z, fun z => by rw [z]⟩
        rw [List.zipWith_cons_cons, eq, List.map_cons]
        by_cases c : x.1 = key
        · have e2 : putAt key u x = (x.1, x.2.1, u) := by unfold putAt; rw [if_pos c]
          rw [decide_eq_true c, e2]
          refine ⟨.cons h1 p1, by rw [List.map_cons, List.map_cons, p2], v :: vs2, ?_, ?_⟩
          · rw [List.map_cons]
            exact .cons ru p3
          · exact IsL.cons iw p4
        · have e2 : putAt key u x = x := by unfold putAt; rw [if_neg c]
          rw [decide_eq_false c, e2]
          exact ⟨.cons h1 p1, by rw [List.map_cons, List.map_cons, p2], _, by rw [List.map_cons]; exact .cons r1 p3, IsL.cons i1 p4⟩
theorem Paired.snoc2 {α β : Type} {R : α → β → Prop} : ∀ {xs : List α} {ys : List β} {x : α} {y : β}, Paired R xs ys → R x y → Paired R (xs ++ [x]) (ys ++ [y])
  | _, _, _, _, .nil, h => .cons h .nil
  | _, _, _, _, .cons r q, h => .cons r (Paired.snoc2 q h)
theorem put_is {k w : T} {key : NestedKey} {b : Addr} {v : V} {u : Value} {ks ws : List T} {xs : List (NestedKey × Addr × Value)} {vs : List V} (hk : tk? k = some key) (ik : Is C G k (.ref b)) (ru : RelV v u) (iw : Is C G w v) (h : KeysAre ks xs) (hi : IsL C G ks (xs.map fun x => .ref x.2.1))
    (r : Vals vs (xs.map fun x => x.2.2)) (i : IsL C G ws vs) : KeysAre (putK2 ks ws k w).1 (storedH xs key b u) ∧ IsL C G (putK2 ks ws k w).1 ((storedH xs key b u).map fun x => .ref x.2.1) ∧ ∃ vs', Vals vs' ((storedH xs key b u).map fun x => x.2.2) ∧ IsL C G (putK2 ks ws k w).2 vs' := by
  have ea := key_any hk h
  unfold putK2 storedH
  rw [ea]
  by_cases c : (atKey xs key).isSome = true
  · rw [if_pos c, if_pos c]
    obtain ⟨p1, p2, p3⟩ := put_map hk ru iw h r i
    exact ⟨p1, by rw [p2]; exact hi, p3⟩
  · rw [if_neg c, if_neg c]
    refine ⟨Paired.snoc2 h hk, ?_, vs ++ [v], ?_, i.app (IsL.one iw)⟩
    · rw [List.map_append]
      exact hi.app (IsL.one ik)
    · rw [List.map_append]
      exact Paired.snoc2 r ru
theorem stored_len (xs : List (NestedKey × Addr × Value)) (key : NestedKey) (b : Addr) (u : Value) : (storedH xs key b u).length ≤ xs.length + 1 := by
  unfold storedH
  split
  · rw [List.length_map]; omega
  · rw [List.length_append, List.length_singleton]; omega
end
end VS

namespace VS
open PySem PySem.Spec PyProof.Rows L2 Evl

/-! ### slots that hold things of one's own -/
section
variable {C : KM} {B : BS} {σ : L2.St} {H G H' : Hp} {ρ : Ev'} {i : Nat} {v : V} {d d' : D} {F F' : List Addr}
theorem SR.dpAt (s : SR C B σ H ρ G) (e : ρ[i]? = some (.dp d)) : ∃ v F, σ[i]? = some (some v) ∧ Dv C B.w H G d v F ∧ F.Nodup ∧ ∀ x ∈ F, B.1 x = none ∧ G x = none := by
  obtain ⟨Fp, h1, _, _, _⟩ := s.dp
  obtain ⟨v, q1, q2, q3, q4⟩ := h1 i d e
  exact ⟨v, Fp i, q1, q2, q3, q4⟩
/-- a slot is stored with a thing of one's own -/
theorem SR.setDp (s : SR C B σ H ρ G) (h : Dv C B.w H G d v F) (nd : F.Nodup) (hF : ∀ x ∈ F, B.1 x = none ∧ G x = none)
    (f1 : ∀ (k : Nat) (e : D) (u : V) (F' : List Addr), k ≠ i → ρ[k]? = some (.dp e) → σ[k]? = some (some u) → Dv C B.w H G e u F' → ∀ x ∈ F, x ∉ F')
    (f2 : ∀ (j : Nat) (t : T) (a : Addr), j ≠ i → ρ[j]? = some (.ow t) → σ[j]? = some (some (.ref a)) → a ∉ F) (hbi : ∀ p ∈ B.bi, p.1 = i → v = .ref p.2) : SR C B (σ.set i (some v)) H (ρ.set i (.dp d)) G := by
  have ne : ∀ {j : Nat} {x : Sl}, (∀ d, x ≠ .dp d) → (ρ.set i (.dp d))[j]? = some x → j ≠ i ∧ ρ[j]? = some x := fun {j x} hx e => by
    rcases set_get e with ⟨_, z⟩ | z
    · exact (hx d z).elim
    · exact z
  refine ⟨s.gr, fun j t e => ?_, fun j t e => ?_, fun j k t u a hjk e1 e2 e3 e4 => ?_, by rw [List.length_set, List.length_set]; exact s.len, fun j y p e => ?_, ?_⟩
  · obtain ⟨n, e⟩ := ne (fun d z => by cases z) e
    obtain ⟨u, h1, h2⟩ := s.sh j t e
    exact ⟨u, by rw [List.getElem?_set_ne (Ne.symm n)]; exact h1, h2⟩
  · obtain ⟨n, e⟩ := ne (fun d z => by cases z) e
    obtain ⟨a, o, h1, h2⟩ := s.ow j t e
    exact ⟨a, o, by rw [List.getElem?_set_ne (Ne.symm n)]; exact h1, h2⟩
  · obtain ⟨n1, e1⟩ := ne (fun d z => by cases z) e1
    obtain ⟨n2, e2⟩ := ne (fun d z => by cases z) e2
    rw [List.getElem?_set_ne (Ne.symm n1)] at e3
    rw [List.getElem?_set_ne (Ne.symm n2)] at e4
    exact s.ds j k t u a hjk e1 e2 e3 e4
  · obtain ⟨n, e⟩ := ne (fun d z => by cases z) e
    obtain ⟨a, cls, dd, h1, h2, h3⟩ := s.xn j y p e
    exact ⟨a, cls, dd, h1, by rw [List.getElem?_set_ne (Ne.symm n)]; exact h2, h3⟩
  · obtain ⟨Fp, h1, h2, h3, h4⟩ := s.dp
    refine ⟨fun k => if k = i then F else Fp k, fun k e q => ?_, fun j k e1 e2 x hjk q1 q2 m1 m2 => ?_, fun k j e t a q1 q2 q3 => ?_, fun p mp e q => ?_⟩
    · rcases set_get q with ⟨rfl, z⟩ | ⟨n, z⟩
      · cases z
        have hl : k < ρ.length := by
          have := (List.getElem?_eq_some_iff.mp q).1
          simpa using this
        simp only [if_true]
        exact ⟨v, List.getElem?_set_self (by rw [← s.len]; exact hl), h, nd, hF⟩
      · obtain ⟨u, k1, k2, k3, k4⟩ := h1 k e z
        simp only [if_neg n]
        exact ⟨u, by rw [List.getElem?_set_ne (Ne.symm n)]; exact k1, k2, k3, k4⟩
    · simp only at m1 m2
      rcases set_get q1 with ⟨n1, z1⟩ | ⟨n1, z1⟩
      · rcases set_get q2 with ⟨n2, z2⟩ | ⟨n2, z2⟩
        · exact hjk (n1.trans n2.symm)
        · obtain ⟨u, k1, k2, _⟩ := h1 k e2 z2
          rw [if_pos n1] at m1
          rw [if_neg n2] at m2
          exact f1 k e2 u _ n2 z2 k1 k2 x m1 m2
      · rcases set_get q2 with ⟨n2, z2⟩ | ⟨n2, z2⟩
        · obtain ⟨u, k1, k2, _⟩ := h1 j e1 z1
          rw [if_neg n1] at m1
          rw [if_pos n2] at m2
          exact f1 j e1 u _ n1 z1 k1 k2 x m2 m1
        · rw [if_neg n1] at m1
          rw [if_neg n2] at m2
          exact h2 j k e1 e2 x hjk z1 z2 m1 m2
    · obtain ⟨nj, q2⟩ := ne (fun d z => by cases z) q2
      rw [List.getElem?_set_ne (Ne.symm nj)] at q3
      simp only
      rcases set_get q1 with ⟨n1, z1⟩ | ⟨n1, z1⟩
      · rw [if_pos n1]
        exact f2 j t a nj q2 q3
      · rw [if_neg n1]
        exact h3 k j e t a z1 q2 q3
    · rcases set_get q with ⟨n1, z1⟩ | ⟨n1, z1⟩
      · have hl : i < ρ.length := by
          have := (List.getElem?_eq_some_iff.mp q).1
          rw [n1] at this
          simpa using this
        rw [n1, List.getElem?_set_self (by rw [← s.len]; exact hl), hbi p mp n1]
      · rw [List.getElem?_set_ne (Ne.symm n1)]
        exact h4 p mp e z1
/-- .. a new one -/
theorem SR.setNewDp {H0 G0 : Hp} (s0 : SR C B σ H0 ρ G0) (g : Gr H0 G0 H G) (h : Dv C B.w H G d v F) (nd : F.Nodup) (hF : ∀ x ∈ F, H0 x = none ∧ G x = none) (hbi : ∀ p ∈ B.bi, p.1 = i → v = .ref p.2) : SR C B (σ.set i (some v)) H (ρ.set i (.dp d)) G :=
  (s0.ext g).setDp h nd (fun x m => ⟨fresh_back s0.gr.eh (hF x m).1, (hF x m).2⟩) (fun k e u F' _ q1 q2 q3 x m => s0.dpFree g (hF x m).1 k e u F' q1 q2 q3) (fun j t a _ q1 q2 m => by
    obtain ⟨b, o, k1, _, k3, _⟩ := s0.ow j t q1
    rw [k1] at q2
    cases q2
    rw [(hF a m).1] at k3
    cases k3) hbi
/-- the thing in a slot is changed -/
theorem SR.dpUpd (s : SR C B σ H ρ G) (e : ρ[i]? = some (.dp d)) (ev : σ[i]? = some (some v)) (hd : Dv C B.w H G d v F) (hk : ∀ x, x ∉ F → ∀ o, H x = some o → H' x = some o) (hd' : Dv C B.w H' G d' v F') (nd : F'.Nodup)
    (hF' : ∀ x ∈ F', x ∈ F ∨ H x = none) : SR C B σ H' (ρ.set i (.dp d')) G := by
  obtain ⟨Fp, h1, h2, h3, h4⟩ := s.dp
  obtain ⟨v', q1, q2, q3, q4⟩ := h1 i d e
  rw [ev] at q1
  cases q1
  have eF := hd.det (Ex.refl _) _ _ _ _ (fun x _ o z => z) q2
  subst eF
  have out : ∀ {x : Addr} {o : HO}, G x = some o → x ∉ Fp i := fun {x o} z m => by rw [(q4 x m).2] at z; cases z
  have gh : Ex G H' := fun x o z => hk x (out z) o (s.gr.gh x o z)
  refine ⟨⟨fun x o z => hk x (fun m => by rw [(q4 x m).1] at z; cases z) o (s.gr.eh x o z), s.gr.eg, gh, s.gr.sep⟩, fun j t z => ?_, fun j t z => ?_, fun j k t u a hjk z1 z2 z3 z4 => ?_, by rw [List.length_set]; exact s.len, fun j y p z => ?_, ?_⟩
  · rcases set_get z with ⟨_, w⟩ | ⟨_, w⟩
    · cases w
    · exact s.sh j t w
  · rcases set_get z with ⟨_, w⟩ | ⟨_, w⟩
    · cases w
    · obtain ⟨a, o, k1, k2, k3, k4⟩ := s.ow j t w
      exact ⟨a, o, k1, k2, hk a (h3 i j d t a e w k1) o k3, k4⟩
  · rcases set_get z1 with ⟨_, w⟩ | ⟨_, w1⟩
    · cases w
    · rcases set_get z2 with ⟨_, w⟩ | ⟨_, w2⟩
      · cases w
      · exact s.ds j k t u a hjk w1 w2 z3 z4
  · rcases set_get z with ⟨_, w⟩ | ⟨_, w⟩
    · cases w
    · exact s.xn j y p w
  · refine ⟨fun k => if k = i then F' else Fp k, fun k c z => ?_, fun j k c1 c2 x hjk z1 z2 m1 m2 => ?_, fun k j c t a z1 z2 z3 m => ?_, fun p mp c z => ?_⟩
    · rcases set_get z with ⟨rfl, w⟩ | ⟨n, w⟩
      · cases w
        simp only [if_true]
        refine ⟨v, ev, hd', nd, fun x m => ?_⟩
        rcases hF' x m with w | w
        · exact q4 x w
        · exact ⟨fresh_back s.gr.eh w, ex_none s.gr.gh w⟩
      · obtain ⟨u, k1, k2, k3, k4⟩ := h1 k c w
        simp only [if_neg n]
        exact ⟨u, k1, k2.mono (Ex.refl _) _ _ _ (fun x m o y => hk x (fun m2 => h2 k i c d x n w e m m2) o y), k3, k4⟩
    · simp only at m1 m2
      have old : ∀ {j : Nat} {c : D} {x : Addr}, ρ[j]? = some (.dp c) → x ∈ Fp j → j ≠ i → x ∉ F' := fun {j c x} w m n m2 => by
        rcases hF' x m2 with y | y
        · exact h2 j i c d x n w e m y
        · obtain ⟨u, _, k2, _⟩ := h1 j c w
          obtain ⟨o, ho⟩ := k2.there _ _ _ x m
          rw [y] at ho
          cases ho
      rcases set_get z1 with ⟨n1, w1⟩ | ⟨n1, w1⟩
      · rcases set_get z2 with ⟨n2, w2⟩ | ⟨n2, w2⟩
        · exact hjk (n1.trans n2.symm)
        · rw [if_pos n1] at m1
          rw [if_neg n2] at m2
          exact old w2 m2 n2 m1
      · rcases set_get z2 with ⟨n2, w2⟩ | ⟨n2, w2⟩
        · rw [if_neg n1] at m1
          rw [if_pos n2] at m2
          exact old w1 m1 n1 m2
        · rw [if_neg n1] at m1
          rw [if_neg n2] at m2
          exact h2 j k c1 c2 x hjk w1 w2 m1 m2
    · simp only at m
      rcases set_get z2 with ⟨_, w⟩ | ⟨_, w⟩
      · cases w
      · rcases set_get z1 with ⟨n1, w1⟩ | ⟨n1, w1⟩
        · rw [if_pos n1] at m
          rcases hF' a m with y | y
          · exact h3 i j d t a e w z3 y
          · obtain ⟨b, o, k1, _, k3, _⟩ := s.ow j t w
            rw [k1] at z3
            cases z3
            rw [y] at k3
            cases k3
        · rw [if_neg n1] at m
          exact h3 k j c t a w1 w z3 m
    · rcases set_get z with ⟨n1, w1⟩ | ⟨_, w1⟩
      · exact h4 p mp d (by rw [n1]; exact e)
      · exact h4 p mp c w1
end
end VS

/-! None asked of a dict whose keys are tuples -/
namespace VS
open PySem PySem.Spec PyProof.Rows L2 Evl
section
variable {prog : Program} {w : World} {A : Around} {E : Value → Shared → Prop} {s : Shared}
theorem quiet_refs {stored : List Value} {Q : Bool → Shared → Prop} (hst : ∀ v ∈ stored, ∃ k b, v = .ref b ∧ (nestedKind prog w).is s.heap k b) (h : Q false s) : wpAny (model prog w) A (tableMayTell .none stored) Q E s := by
  unfold tableMayTell
  split
  · exact wpAny_pure h
  · refine wpAny_bind (show wpAny _ _ (pure true) _ _ s from wpAny_pure ?_)
    simp only [Bool.not_true, Bool.false_eq_true, if_false]
    refine wpAny_bind ?_
    refine wpAny_forIn_list _ (fun rest r s' => s' = s ∧ r = (none, ()) ∧ ∀ v ∈ rest, ∃ k' b, v = .ref b ∧ (nestedKind prog w).is s.heap k' b) _ ?_ ?_ _ _ ⟨rfl, rfl, hst⟩
    · rintro x rest r s' ⟨rfl, rfl, hr⟩
      obtain ⟨k', b, rfl, hb⟩ := hr x List.mem_cons_self
      refine wpAny_bind ((nestedKind prog w).quiet hb ?_)
      simp only [Bool.not_true, Bool.false_eq_true, if_false]
      exact wpAny_pure ⟨rfl, rfl, fun v hv => hr v (List.mem_cons_of_mem _ hv)⟩
    · rintro r s' ⟨rfl, rfl, _⟩
      exact wpAny_pure h
theorem eq_none {k : NestedKey} {b : Addr} {Q : Bool → Shared → Prop} (hu : A.units + 8 < cLine) (hb : (nestedKind prog w).is s.heap k b) (h : Q false s) : wpAny (model prog w) A (eqBool (.ref b) .none) Q E s := by
  refine eqAt_key k .none A s _ _ hb.1 NestedIs.none (by have := hb.2; omega) _ _ _ _ ?_
  obtain ⟨hb, _⟩ := hb
  cases hb
  exact h
theorem find_none {d : Addr} {o : Obj} {es ep} {xs : List (NestedKey × Addr × Value)} {hh : Int} {Q : Option Nat → Shared → Prop} (hu : A.units + 8 < cLine)
    (ho : s.heap.get? d = some o) (hd : o.data = .dict es ep) (he : es.toList = xs.map (entryOfKey (nestedKind prog w))) (his : ∀ x ∈ xs, (nestedKind prog w).is s.heap x.1 x.2.1) (h : Q none s) :
    wpAny (model prog w) A (dictFind d .none hh) Q E s := by
  have hmem : ∀ e ∈ es, ∃ x ∈ xs, e = entryOfKey (nestedKind prog w) x := by
    intro e hin
    have : e ∈ xs.map (entryOfKey (nestedKind prog w)) := he ▸ Array.mem_toList_iff.mpr hin
    obtain ⟨x, hx, rfl⟩ := List.mem_map.mp this
    exact ⟨x, hx, rfl⟩
  have hst : ∀ v ∈ (placesWithHash es.size (fun i => es[i]?.map (·.hash)) hh).filterMap (fun i => es[i]?.map (·.key)), ∃ k' b, v = .ref b ∧ (nestedKind prog w).is s.heap k' b := by
    intro v hv
    obtain ⟨i, _, hi⟩ := List.mem_filterMap.mp hv
    cases hei : es[i]? with
    | none => rw [hei] at hi; cases hi
    | some e =>
      rw [hei] at hi
      obtain rfl : e.key = v := by simpa using hi
      obtain ⟨x, hx, rfl⟩ := hmem e (Array.mem_of_getElem? hei)
      exact ⟨x.1, x.2.1, rfl, his x hx⟩
  have turn : ∀ (i : Nat) (e : DictEntry), es[i]? = some e → ∃ k b, e.key = .ref b ∧ (nestedKind prog w).is s.heap k b := by
    intro i e hei
    obtain ⟨x, hx, rfl⟩ := hmem e (Array.mem_of_getElem? hei)
    exact ⟨x.1, x.2.1, rfl, his x hx⟩
  unfold dictFind
  try with_reducible refine wpAny_holding ?_
  refine wpAny_bind (wpAny_dictEntries ho hd ?_)
  dsimp only
  by_cases hc : ((Value.none :: (placesWithHash es.size (fun i => es[i]?.map (·.hash)) hh).filterMap (fun i => es[i]?.map (·.key))).all carriedByValue) = true
  · rw [if_pos hc]
    refine wpAny_bind ?_
    refine wpAny_forIn_list _ (fun rest r s' => s' = s ∧ r = (none, ())) _ ?_ ?_ _ _ ⟨rfl, rfl⟩
    · rintro x rest r s' ⟨rfl, rfl⟩
      cases hei : es[x]? with
      | none => exact wpAny_pure ⟨rfl, rfl⟩
      | some e =>
        obtain ⟨k, b, ek, hb⟩ := turn x e hei
        dsimp only
        split
        · rw [ek]
          refine wpAny_bind (wpAny_dictEpoch ho hd (wpAny_bind (eq_none hu hb (wpAny_bind (wpAny_dictEpoch ho hd ?_)))))
          show wpAny _ _ (if (ep != ep) = true then _ else _) _ E _
          rw [if_neg (by simp)]
          simp only [Bool.false_eq_true, if_false]
          exact wpAny_bind (wpAny_rule (wpAny_pure ⟨rfl, rfl⟩))
        · exact wpAny_pure ⟨rfl, rfl⟩
    · rintro r s' ⟨rfl, rfl⟩
      exact wpAny_pure h
  · rw [if_neg hc]
    have hne : ((placesWithHash es.size (fun i => es[i]?.map (·.hash)) hh).filterMap (fun i => es[i]?.map (·.key)) == [Value.none]) = false := by
      cases q : (placesWithHash es.size (fun i => es[i]?.map (·.hash)) hh).filterMap (fun i => es[i]?.map (·.key)) with
      | nil => rfl
      | cons v l =>
        obtain ⟨k, b, ev, _⟩ := hst v (by rw [q]; exact List.mem_cons_self)
        subst ev
        rfl
    rw [hne]
    simp only [Bool.false_eq_true, if_false]
    refine wpAny_bind (quiet_refs hst ?_)
    rw [if_neg (by simp)]
    refine wpAny_bind ?_
    refine wpAny_forIn_list _ (fun rest b s' => s' = s ∧ b = (none, none)) _ ?_ ?_ _ _ ⟨rfl, rfl⟩
    · rintro x rest b s' ⟨rfl, rfl⟩
      cases hei : es[x]? with
      | none => exact wpAny_pure ⟨rfl, rfl⟩
      | some e =>
        obtain ⟨k, bb, ek, hb⟩ := turn x e hei
        dsimp only
        split
        · rw [ek]
          refine wpAny_bind (wpAny_dictEpoch ho hd (wpAny_bind (eq_none hu hb (wpAny_bind (wpAny_dictEpoch ho hd ?_)))))
          show wpAny _ _ (if (ep != ep) = true then _ else _) _ E _
          rw [if_neg (by simp)]
          simp only [Bool.false_eq_true, if_false]
          refine wpAny_bind (wpAny_rule ?_)
          first | rw [if_neg (by simp)] | skip
          first
            | exact wpAny_pure ⟨rfl, rfl⟩
            | exact wpAny_bind (wpAny_pure (wpAny_pure ⟨rfl, rfl⟩))
        · exact wpAny_pure ⟨rfl, rfl⟩
    · rintro b s' ⟨rfl, rfl⟩
      exact wpAny_pure h
theorem in_none {d : Addr} {xs : List (NestedKey × Addr × Value)} {Q : Bool → Shared → Prop} (hu : A.in1.units + 8 < cLine) (hd : (d == sysModules) = false) (hm : s.heap.DictOfH (nestedKind prog w) d xs)
    (h : ∀ tk, Q false { s with toks := tk }) : wpAny (model prog w) A (contains (.ref d) .none) Q E s := by
  refine wpAny_contains_slot hm.typeIs F.slot_dict_contains ?_
  refine call_meetsIn F.slot_dict_contains hm.typeIs F.entry_dict_contains (F.args_dict_contains_2 _ _) (S := fun A' R s' => A' = A ∧ s' = s ∧ ∀ tk, R (.ok (.ret (.bool false))) { s with toks := tk }) (fun A' R s' hS => ?_) ⟨rfl, rfl, fun tk => wpAny_truthy_bool (h tk)⟩
  obtain ⟨rfl, rfl, hq⟩ := hS
  show wpAny _ _ (dictGet d .none >>= _) _ _ _
  refine wpAny_bind ?_
  obtain ⟨o, es, ep, ho, _, hdd, he, his, hn⟩ := hm
  unfold dictGet
  try with_reducible refine wpAny_holding ?_
  refine wpAny_bind (pyHash_key .none .none _ s' _ NestedIs.none (by show _ + 0 < cLine; omega) ?_)
  refine wpAny_bind (find_none (s := { s' with toks := s'.toks + NestedKey.none.draws }) hu ho hdd he his ?_)
  refine wpAny_pure ?_
  show wpAny _ _ (Builtin.Dict.pendingKey? d .none >>= _) _ _ _
  refine wpAny_bind (wpAny_pendingKey_other hd (wpAny_pure (hq _)))
end
end VS

namespace VS
open PySem PySem.Spec PyProof.Rows L2 Evl

/-! ### a dict of one's own with keys that are tuples: {}, d[k] = v, k in d, d[k], len(d) -/
section
variable {X : Cx} {B : BS} {W : WX} {a b k e : Expr} {fa fb fk fe : FE} {pos pos' p p2 : Pos} {i : Nat} {x : Str}
def tNdNew (w : World) : TE := fun _ H Q => ∀ d, H d = none → (d == sysModules) = false → Q (.ref d) (upd H d (NdO w d []))
theorem pe_ndnew : PE X (.Dict [] [] pos) (tNdNew X.w) := ⟨fun pins s σ H Q I h =>
  wpAny_Dict_empty ⟨.ref s.heap.objs.size, _, I.laid (a := s.heap.objs.size) (o := NdO X.w s.heap.objs.size []) (t' := s.toks) (fun _ _ q => Heap.get?_push_of_some _ q) (Nat.le_refl _) (nd_of (Heap.DictOfH.new s.heap)), rfl,
    h _ (I.hok.fresh (Nat.le_refl _)) (beq_eq_false_iff_ne.mpr (Nat.ne_of_gt I.big))⟩⟩
def sNewDt (i : Nat) : FS := fun ρ => .nx (ρ.set i (.dp (.dt [] [])))
theorem st_newDt (hN : X.N.Nodup) (hi : X.N[i]? = some x) (hx : Loc X.env.scope x) (hbi : B.bi.all (fun p => p.1 != i) = true := by rfl) (hw : B.w = X.w := by rfl) (hs : swapsWith (.Dict [] [] p) (some (.Name x pos')) pos.line X.env = pure false := by rfl) (hf : X.fn x = true ∨ X.env.scope.names.lookup x = some .local := by first | exact .inl rfl | exact .inr rfl | assumption) :
    DS X B W (.Assign [.Name x pos'] (.Dict [] [] p) pos) (sNewDt i) := PS.imp (ps_set hN hi hx pe_ndnew hs hf) fun D σ H ⟨ρ, G, s, q⟩ => fun d hd hm => by
  have g := Gr.own (o := NdO X.w d []) s.exGH hd
  refine q _ _ G (s.setNewDp g (F := [d]) ?_ (by simp) (fun x m => ?_) (fun p mp z => absurd z (by simpa using List.all_eq_true.mp hbi p mp))) (Ex.refl _)
  · unfold Dv
    refine ⟨d, [], [], rfl, hm, ?_, Nat.zero_le _, .nil, IsL.nil, .nil, IsL.nil, rfl⟩
    rw [hw]
    exact upd_same
  · rw [List.mem_singleton.mp m]
    exact ⟨hd, ex_none s.exGH hd⟩
/-- what such a dict is -/
structure NdI (C : KM) (w : World) (H G : Hp) (d : Addr) (ks ws : List T) (xs : List (NestedKey × Addr × Value)) (vs : List V) : Prop where
  ms : (d == sysModules) = false
  at_ : H d = some (NdO w d xs)
  sz : xs.length ≤ sizeLine
  ka : KeysAre ks xs
  ik : IsL C G ks (xs.map fun x => .ref x.2.1)
  rv : Vals vs (xs.map fun x => x.2.2)
  iv : IsL C G ws vs
theorem dt_open {C : KM} {w : World} {H G : Hp} {ks ws : List T} {v : V} {F : List Addr} (h : Dv C w H G (.dt ks ws) v F) : ∃ d xs vs, v = .ref d ∧ NdI C w H G d ks ws xs vs ∧ F = [d] := by
  unfold Dv at h
  obtain ⟨d, xs, vs, h1, h2, h3, h4, h5, h6, h7, h8, h9⟩ := h
  exact ⟨d, xs, vs, h1, ⟨h2, h3, h4, h5, h6, h7, h8⟩, h9⟩
theorem dt_close {C : KM} {w : World} {H G : Hp} {ks ws : List T} {d : Addr} {xs : List (NestedKey × Addr × Value)} {vs : List V} (h : NdI C w H G d ks ws xs vs) : Dv C w H G (.dt ks ws) (.ref d) [d] := by
  unfold Dv
  exact ⟨d, xs, vs, rfl, h.ms, h.at_, h.sz, h.ka, h.ik, h.rv, h.iv, rfl⟩
/-- k in d, by values -/
def ndHas (ks : List T) (k : T) : Option Bool := match k with
  | .non => some false
  | k => match tk? k with | some _ => some (ks.any fun z => tkEq z k) | none => none
theorem ndHas_of {ks : List T} {k : T} {b : Bool} (h : ndHas ks k = some b) : (k = .non ∧ b = false) ∨ ∃ key, tk? k = some key ∧ b = ks.any fun z => tkEq z k := by
  unfold ndHas at h
  split at h
  · cases h; exact .inl ⟨rfl, rfl⟩
  · split at h
    · rename_i key e
      cases h
      exact .inr ⟨key, e, rfl⟩
    · cases h
def rNdIn (X : Cx) (neg : Bool) : R2 := fun x y H Q => ∃ d ks ws xs vs G kt b, y = .ref d ∧ Ex G H ∧ NdI (km X) X.w H G d ks ws xs vs ∧ Is (km X) G kt x ∧ ndHas ks kt = some b ∧ Q (.bl (if neg then !b else b)) H
theorem op_ndIn (hu : X.A.units + 64 < cLine) : OpR X (compareOp .In) (rNdIn X false) := by
  intro pins s σ H y z v u Q I ry rz h
  obtain ⟨d, ks, ws, xs, vs, G, kt, bb, rfl, ex, n, ik, hk, q⟩ := h
  cases (show u = Value.ref d from rz)
  rcases ndHas_of hk with ⟨rfl, rfl⟩ | ⟨key, hk2, rfl⟩
  · unfold Is at ik
    subst ik
    cases (show v = Value.none from ry)
    refine (show wpAny (model X.prog X.w) X.A (do return Value.bool (← contains (.ref d) .none)) (EP X pins σ Q) X.xe s from wpAny_bind (in_none (show X.A.in1.units + 8 < cLine by show X.A.units + 1 + 8 < cLine; omega) n.ms (dt_h I ex n.at_ n.ka n.ik) fun tk => wpAny_pure ?_))
    exact ⟨.bl false, H, I.tok _, rfl, q⟩
  · obtain ⟨b, rfl, hb⟩ := key_is I ex ik hk2
    cases (show v = Value.ref b from ry)
    refine wpAny_in_heap (knd := nestedKind X.prog X.w) (show X.A.in1.units + 8 < cLine by show X.A.units + 1 + 8 < cLine; omega) hb n.ms (dt_h I ex n.at_ n.ka n.ik) ?_
    rw [← key_any hk2 n.ka]
    exact ⟨.bl (ks.any fun z => tkEq z kt), H, I.tok _, rfl, q⟩
theorem op_ndNotIn (hu : X.A.units + 64 < cLine) : OpR X (compareOp .NotIn) (rNdIn X true) := by
  intro pins s σ H y z v u Q I ry rz h
  obtain ⟨d, ks, ws, xs, vs, G, kt, bb, rfl, ex, n, ik, hk, q⟩ := h
  cases (show u = Value.ref d from rz)
  rcases ndHas_of hk with ⟨rfl, rfl⟩ | ⟨key, hk2, rfl⟩
  · unfold Is at ik
    subst ik
    cases (show v = Value.none from ry)
    refine (show wpAny (model X.prog X.w) X.A (do return Value.bool (!(← contains (.ref d) .none))) (EP X pins σ Q) X.xe s from wpAny_bind (in_none (show X.A.in1.units + 8 < cLine by show X.A.units + 1 + 8 < cLine; omega) n.ms (dt_h I ex n.at_ n.ka n.ik) fun tk => wpAny_pure ?_))
    exact ⟨.bl true, H, I.tok _, rfl, q⟩
  · obtain ⟨b, rfl, hb⟩ := key_is I ex ik hk2
    cases (show v = Value.ref b from ry)
    refine wpAny_notIn_heap (knd := nestedKind X.prog X.w) (show X.A.in1.units + 8 < cLine by show X.A.units + 1 + 8 < cLine; omega) hb n.ms (dt_h I ex n.at_ n.ka n.ik) ?_
    rw [← key_any hk2 n.ka]
    exact ⟨.bl (!(ks.any fun z => tkEq z kt)), H, I.tok _, rfl, q⟩
def eDtIn (neg : Bool) (i : Nat) (fa : FE) : FE := fun ρ => (fa ρ).bind fun k => match ρ[i]? with
  | some (.dp (.dt ks _)) => (match ndHas ks k with | some b => .ok (.bl (if neg then !b else b)) | none => .bad)
  | _ => .bad
theorem ndIn_of {neg : Bool} {σ : L2.St} {H G : Hp} {ρ : Ev'} {Q : VK} (s : SR (km X) B σ H ρ G) (hw : B.w = X.w) (q : Post (km X) .E W σ H G (eDtIn neg i fa ρ) Q) : tOp (rNdIn X neg) (tM (km X) B .E W fa) (tVar i) σ H Q :=
  bindE s q fun kt v H1 G1 g s1 ik p1 => by
    split at p1
    · rename_i ks ws e
      split at p1
      · rename_i b hk
        obtain ⟨v', F, q1, q2, _, _⟩ := s1.dpAt e
        obtain ⟨d, xs, vs, rfl, n, _⟩ := dt_open q2
        rw [hw] at n
        exact ⟨.ref d, q1, d, ks, ws, xs, vs, G1, kt, b, rfl, s1.exGH, n, ik, hk, qE p1 s1.exGH Is.blI⟩
      · exact p1.elim
    · exact p1.elim
theorem d_ndIn (hu : X.A.units + 64 < cLine) (ha : DE X B W .E a fa) (hN : X.N[i]? = some x) (hv : Vis X.env.scope x) (hd : (x == ("__debug__" : Str)) = false := by decide) (hcd : (x == ("__classdict__" : Str)) = false := by decide) (hw : B.w = X.w := by rfl)
    (hm : behindInMarks .In (.Name x p) = false := by rfl) : DE X B W .E (.Compare a [.In] [.Name x p] pos) (eDtIn false i fa) :=
  PE.imp (pe_cmpR (op_ndIn hu) ha (pe_var hN hv hd hcd) hm) fun σ H Q ⟨ρ, G, s, q⟩ => ndIn_of s hw q
theorem t_ndIn (hu : X.A.units + 64 < cLine) (ha : DE X B W .E a fa) (hN : X.N[i]? = some x) (hv : Vis X.env.scope x) (hd : (x == ("__debug__" : Str)) = false := by decide) (hcd : (x == ("__classdict__" : Str)) = false := by decide) (hw : B.w = X.w := by rfl)
    (hm : behindInMarks .In (.Name x p) = false := by rfl) : DT X B W (.Compare a [.In] [.Name x p] pos) (eDtIn false i fa) :=
  PT.imp (pt_cmpR (op_ndIn hu) ha (pe_var hN hv hd hcd) hm) fun σ H Q ⟨ρ, G, s, q⟩ => ndIn_of s hw (q.post (.inl rfl))
theorem d_ndNin (hu : X.A.units + 64 < cLine) (ha : DE X B W .E a fa) (hN : X.N[i]? = some x) (hv : Vis X.env.scope x) (hd : (x == ("__debug__" : Str)) = false := by decide) (hcd : (x == ("__classdict__" : Str)) = false := by decide) (hw : B.w = X.w := by rfl)
    (hm : behindInMarks .NotIn (.Name x p) = false := by rfl) : DE X B W .E (.Compare a [.NotIn] [.Name x p] pos) (eDtIn true i fa) :=
  PE.imp (pe_cmpR (op_ndNotIn hu) ha (pe_var hN hv hd hcd) hm) fun σ H Q ⟨ρ, G, s, q⟩ => ndIn_of s hw q
theorem t_ndNin (hu : X.A.units + 64 < cLine) (ha : DE X B W .E a fa) (hN : X.N[i]? = some x) (hv : Vis X.env.scope x) (hd : (x == ("__debug__" : Str)) = false := by decide) (hcd : (x == ("__classdict__" : Str)) = false := by decide) (hw : B.w = X.w := by rfl)
    (hm : behindInMarks .NotIn (.Name x p) = false := by rfl) : DT X B W (.Compare a [.NotIn] [.Name x p] pos) (eDtIn true i fa) :=
  PT.imp (pt_cmpR (op_ndNotIn hu) ha (pe_var hN hv hd hcd) hm) fun σ H Q ⟨ρ, G, s, q⟩ => ndIn_of s hw (q.post (.inl rfl))
/-- len(d) -/
def eDtLen (i : Nat) : FE := fun ρ => match ρ[i]? with | some (.dp (.dt ks _)) => .ok (.int ks.length) | _ => .bad
def rNdLen (X : Cx) : List V → Hp → VK → Prop := fun us H Q => ∃ d ks ws xs vs G, us = [.ref d] ∧ Ex G H ∧ NdI (km X) X.w H G d ks ws xs vs ∧ Q (.int ks.length) H
theorem c_ndLen : CallR X (.builtin "len") (rNdLen X) := by
  intro pins s σ H ys us Q I r h
  obtain ⟨d, ks, ws, xs, vs, G, rfl, ex, n, q⟩ := h
  cases r with
  | cons r rr =>
    cases rr
    cases r
    have hz := n.sz
    have hl : ks.length = xs.length := Paired.len n.ka
    refine call_len_dictH (knd := nestedKind X.prog X.w) n.ms (dt_h I ex n.at_ n.ka n.ik) (by rw [sizeLine_eq] at hz; omega) ?_
    exact ⟨.int ks.length, H, I.tok _, ⟨_, by rw [hl]⟩, q⟩
theorem d_ndLen (hg : Gl X "len") (hm : X.mg "len" = none) (hN : X.N[i]? = some x) (hv : Vis X.env.scope x) (hd : (x == ("__debug__" : Str)) = false := by decide) (hcd : (x == ("__classdict__" : Str)) = false := by decide) (hw : B.w = X.w := by rfl)
    (he : starEach [.Name x p2] X.env = (false, eval (.Name x p2) X.env) :: starEach [] X.env := by rfl) : DE X B W .E (.Call (.Name "len" p) [.Name x p2] [] pos) (eDtLen i) :=
  PE.imp (pe_callB c_ndLen hg hm PySem.boot_len (pa_cons (pe_var hN hv hd hcd) pa_nil he) (by decide) (by decide) he rfl) fun σ H Q ⟨ρ, G, s, q⟩ => by
    unfold eDtLen at q
    split at q
    · rename_i ks ws e
      obtain ⟨v', F, q1, q2, _, _⟩ := s.dpAt e
      obtain ⟨d, xs, vs, rfl, n, _⟩ := dt_open q2
      rw [hw] at n
      exact ⟨.ref d, q1, d, ks, ws, xs, vs, G, rfl, s.exGH, n, qE q s.exGH Is.intI⟩
    · exact q.elim
/-- d[k] -/
def eDtGet (i : Nat) (fk : FE) : FE := fun ρ => match ρ[i]? with
  | some (.dp (.dt ks ws)) => (fk ρ).bind fun k => (match tk? k with | some _ => Res.of (lookK ks ws k) | none => .bad)
  | _ => .bad
theorem d_ndGet (hu : X.A.units + 64 < cLine) (hk : DE X B W .E k fk) (hN : X.N[i]? = some x) (hv : Vis X.env.scope x) (hd : (x == ("__debug__" : Str)) = false := by decide) (hcd : (x == ("__classdict__" : Str)) = false := by decide) (hw : B.w = X.w := by rfl)
    (hs : NoSl k := by exact fun _ _ => rfl) : DE X B W .E (.Subscript (.Name x p) k pos) (eDtGet i fk) := by
  refine ⟨fun pins s σ H Q I ⟨ρ, G, sr, q⟩ => ?_⟩
  unfold eDtGet at q
  split at q
  · rename_i ks ws e
    obtain ⟨v', F, q1, q2, _, _⟩ := sr.dpAt e
    refine subD_of PySem.F.slot_dict_getitem.lookup hs (thn ((pe_var (X := X) hN hv hd hcd).run pins s σ H (fun v H1 => H1 = H ∧ v = v') I ⟨v', q1, rfl, rfl⟩) fun u s1 ⟨v, H1, I1, rv, eH, ev⟩ => ?_)
    subst eH ev
    obtain ⟨d, xs0, vs0, rfl, _, _⟩ := dt_open q2
    cases (show u = Value.ref d from rv)
    refine thn (hk.run pins s1 σ H1 (fun y H2 => ∃ kt G2 key t xs vs, Ex G2 H2 ∧ NdI (km X) X.w H2 G2 d ks ws xs vs ∧ Is (km X) G2 kt y ∧ tk? kt = some key ∧ lookK ks ws kt = some t ∧ ∀ z, Is (km X) G2 t z → Q z H2) I1 (bindE sr q fun kt y H2 G2 g s2 ik p1 => ?_)) fun iv s2 ⟨y, H2, I2, ry, kt, G2, key, t, xs, vs, ex, n, ik, hk', hl, q⟩ => ?_
    · cases ek : tk? kt with
      | none => rw [ek] at p1; exact p1.elim
      | some key =>
        rw [ek] at p1
        obtain ⟨t, el, q3⟩ := p1.of
        obtain ⟨v2, F2, k1, k2, _, _⟩ := s2.dpAt e
        rw [q1] at k1
        cases k1
        obtain ⟨d2, xs, vs, e2, n, _⟩ := dt_open k2
        cases e2
        rw [hw] at n
        exact ⟨kt, G2, key, t, xs, vs, s2.exGH, n, ik, ek, el, fun z iz => qE q3 s2.exGH iz⟩
    · obtain ⟨b, rfl, hb⟩ := key_is I2 ex ik hk'
      cases (show iv = Value.ref b from ry)
      obtain ⟨p', v, e1, e2, e3⟩ := key_at hk' n.ka n.rv n.iv hl
      have dd := dt_h I2 ex n.at_ n.ka n.ik
      exact ⟨dd.typeIs, wpAny_getItem_heap (knd := nestedKind X.prog X.w) (show X.A.in1.units + 8 < cLine by show X.A.units + 1 + 8 < cLine; omega) hb dd e1 ⟨v, H2, I2.tok _, e2, q v e3⟩⟩
  · exact q.elim
/-- d[k] = v -/
def sDtPut (i : Nat) (fk fe : FE) : FS := fun ρ => sLift ρ (fe ρ) fun w => match ρ[i]? with
  | some (.dp (.dt ks ws)) => sLift ρ (fk ρ) fun k => (match tk? k with | some _ => if ks.length < 100000 then .nx (ρ.set i (.dp (.dt (putK2 ks ws k w).1 (putK2 ks ws k w).2))) else .bad | none => .bad)
  | _ => .bad
theorem st_ndPut (hu : X.A.units + 64 < cLine) (he : DE X B W .E e fe) (hk : DE X B W .E k fk) (hN : X.N[i]? = some x) (hv : Vis X.env.scope x) (hd : (x == ("__debug__" : Str)) = false := by decide) (hcd : (x == ("__classdict__" : Str)) = false := by decide) (hw : B.w = X.w := by rfl)
    (hs : swapsWith e (some (.Subscript (.Name x p) k pos')) pos.line X.env = pure false := by rfl) : DS X B W (.Assign [.Subscript (.Name x p) k pos'] e pos) (sDtPut i fk fe) := by
  refine ⟨fun pins s σ H D I ⟨ρ, G, sr, q⟩ => ?_⟩
  unfold sDtPut at q
  refine wpAny_Assign_Subscript (thn (he.run pins s σ H (fun v H1 => ∃ w ks ws G1, SR (km X) B σ H1 ρ G1 ∧ Is (km X) G1 w v ∧ ρ[i]? = some (.dp (.dt ks ws)) ∧ PostS (km X) B W D G1 (sLift ρ (fk ρ) fun k => (match tk? k with | some _ => if ks.length < 100000 then .nx (ρ.set i (.dp (.dt (putK2 ks ws k w).1 (putK2 ks ws k w).2))) else .bad | none => .bad))) I
    (bindSt (m := .E) sr q fun w v H1 G1 g s1 iw p1 => ?_)) fun r s1 ⟨v, H1, I1, rv, w, ks, ws, G1, sr1, iw, e0, p1⟩ => ?_) hs
  · split at p1
    · rename_i ks ws e0
      exact ⟨w, ks, ws, G1, s1, iw, e0, p1⟩
    · exact p1.elim
  · obtain ⟨v0, F0, k1, k2, _, _⟩ := sr1.dpAt e0
    refine thn ((pe_var (X := X) hN hv hd hcd).run pins s1 σ H1 (fun v H2 => H2 = H1 ∧ v = v0) I1 ⟨v0, k1, rfl, rfl⟩) fun u s2 ⟨v2, H2, I2, r2, eH, ev⟩ => ?_
    subst eH ev
    obtain ⟨d, xs0, vs0, rfl, _, _⟩ := dt_open k2
    cases (show u = Value.ref d from r2)
    refine thn (hk.run pins s2 σ H2 (fun y H3 => ∃ kt G3 key, SR (km X) B σ H3 ρ G3 ∧ Is (km X) G3 w v ∧ Is (km X) G3 kt y ∧ tk? kt = some key ∧ ks.length < 100000 ∧ PostS (km X) B W D G3 (.nx (ρ.set i (.dp (.dt (putK2 ks ws kt w).1 (putK2 ks ws kt w).2))))) I2 (bindSt (m := .E) sr1 p1 fun kt y H3 G3 g s3 ik p3 => ?_))
      fun iv s3 ⟨y, H3, I3, ry, kt, G3, key, sr3, iw3, ik, ek, hl, p3⟩ => ?_
    · split at p3
      · rename_i key ek
        split at p3
        · rename_i hl
          exact ⟨kt, G3, key, s3, Is.mono g.eg _ _ iw, ik, ek, hl, p3⟩
        · exact p3.elim
      · exact p3.elim
    · obtain ⟨b, rfl, hb⟩ := key_is I3 sr3.exGH ik ek
      cases (show iv = Value.ref b from ry)
      obtain ⟨v2, F2, q1, q2, _, qF⟩ := sr3.dpAt e0
      rw [k1] at q1
      cases q1
      obtain ⟨d2, xs, vs, e2, n, eF⟩ := dt_open q2
      cases e2
      have n0 := n
      rw [hw] at n
      have dd := dt_h I3 sr3.exGH n.at_ n.ka n.ik
      have hlen : ks.length = xs.length := Paired.len n.ka
      refine wpAny_setItem_heap (knd := nestedKind X.prog X.w) (hsz := n.sz) (show X.A.in1.units + 8 < cLine by show X.A.units + 1 + 8 < cLine; omega) hb dd fun h' dd' hsb => ?_
      have he : ∃ q, h'.get? d = some q := let ⟨q, _, _, hq, _⟩ := dd'; ⟨q, hq⟩
      have I4 := d_write (t' := s3.toks + (nestedKind X.prog X.w).draws key) I3 (by rw [n.at_]; exact True.intro) hsb he (nd_of dd')
      refine ⟨σ, _, I4, p3 σ _ G3 (sr3.dpUpd e0 k1 q2 (fun x m o z => ?_) (F' := [d]) ?_ (by simp) (fun x m => .inl (by rw [eF]; exact m))) (Ex.refl _)⟩
      · rw [upd_ne (fun c => m (by rw [eF, c]; simp))]
        exact z
      · obtain ⟨p1', p2', vs', p3', p4'⟩ := put_is ek ik rv iw3 n.ka n.ik n.rv n.iv
        refine dt_close ⟨n.ms, ?_, ?_, p1', p2', p3', p4'⟩
        · rw [hw]
          exact upd_same
        · have := stored_len xs key b r
          have hz := sz_of (show xs.length + 1 ≤ 100000 by omega)
          omega
end
end VS

namespace VS
open PySem PySem.Spec PyProof.Rows L2 Evl

/-! ### in a dict with keys that are ints or texts -/
section
variable {C : KM} {G H : Hp}
theorem flat_any {y : T} {j : Key} (hy : isKey y = true) (h' : IsS C H G y (kV j)) : ∀ {ks : List T} {kvs : List (Key × V)}, ks.all isKey = true → IsL C G ks (kvs.map fun p => kV p.1) → (ks.any fun k => keyEq k y) = kvs.any fun kv => decide (kv.1 = j)
  | [], kvs, _, hk => by
    unfold IsL at hk
    cases kvs with
    | nil => rfl
    | cons p r => cases hk
  | k :: ks, kvs, ha, hk => by
    have ha' := Bool.and_eq_true_iff.mp (by simpa only [List.all_cons] using ha)
    cases kvs with
    | nil =>
      unfold IsL at hk
      obtain ⟨_, _, z, _⟩ := hk
      cases z
    | cons p r =>
      unfold IsL at hk
      obtain ⟨v1, r1, e1, k1, k2⟩ := hk
      obtain ⟨rfl, rfl⟩ := List.cons.inj e1
      rw [List.any_cons, List.any_cons, keyEq_of ha'.1 hy k1 h', flat_any hy h' ha'.2 k2]
end
def gDIn (neg : Bool) (x y : T) : Option T := match y with
  | .dic ks _ => if isKey x && ks.all isKey then some (.bl (if neg then !(ks.any fun k => keyEq k x) else ks.any fun k => keyEq k x)) else none
  | _ => none
section
variable {X : Cx}
theorem o_dIn (hu : X.A.units + 64 < cLine) : OpR X (compareOp .In) (rG (km X) .E (gDIn false)) := by
  intro pins s σ H v u a b Q I ra rb h
  obtain ⟨x, y, G, t, ex, ix, iy, e, q⟩ := h
  cases y with
  | dic ks ws =>
    simp only [gDIn] at e
    split at e
    · rename_i c
      have c' := Bool.and_eq_true_iff.mp c
      obtain rfl := Option.some.inj e
      obtain ⟨d, kvs, rfl, h1, h2, h3⟩ := iy.dic ex
      obtain ⟨j, rfl⟩ := key_of c'.1 ix
      cases (show b = Value.ref d from rb)
      have ea := flat_any c'.1 ix c'.2 h2
      rw [valV_any] at ea
      refine d_in (by omega) I (DGet.k h1) ra fun s' I' => ⟨.bl (valV kvs j).isSome, H, I', rfl, ?_⟩
      rw [← ea]
      exact qE q ex Is.blI
    · cases e
  | _ => cases e
theorem o_dNotIn (hu : X.A.units + 64 < cLine) : OpR X (compareOp .NotIn) (rG (km X) .E (gDIn true)) := by
  intro pins s σ H v u a b Q I ra rb h
  obtain ⟨x, y, G, t, ex, ix, iy, e, q⟩ := h
  cases y with
  | dic ks ws =>
    simp only [gDIn] at e
    split at e
    · rename_i c
      have c' := Bool.and_eq_true_iff.mp c
      obtain rfl := Option.some.inj e
      obtain ⟨d, kvs, rfl, h1, h2, h3⟩ := iy.dic ex
      obtain ⟨j, rfl⟩ := key_of c'.1 ix
      cases (show b = Value.ref d from rb)
      have ea := flat_any c'.1 ix c'.2 h2
      rw [valV_any] at ea
      refine d_notIn (by omega) I (DGet.k h1) ra fun s' I' => ⟨.bl (!(valV kvs j).isSome), H, I', rfl, ?_⟩
      rw [← ea]
      exact qE q ex Is.blI
    · cases e
  | _ => cases e
end

/-! ### the table of such a dict -/
def putD (ks ws : List T) (k w : T) : List T × List T :=
  if ks.any (fun x => keyEq x k) then (ks, List.zipWith (fun x y => if keyEq x k then w else y) ks ws) else (ks ++ [k], ws ++ [w])
section
variable {C : KM} {G : Hp}
theorem putD_map {k w : T} {j : Key} {v : V} (hk : isKey k = true) (ik : Is C G k (kV j)) (iw : Is C G w v) : ∀ {ks ws : List T} {kvs : List (Key × V)}, ks.all isKey = true → IsL C G ks (kvs.map fun p => kV p.1) → IsL C G ws (kvs.map fun p => p.2) →
    IsL C G ks ((kvs.map fun kv => if kv.1 = j then (kv.1, v) else kv).map fun p => kV p.1) ∧ IsL C G (List.zipWith (fun x y => if keyEq x k then w else y) ks ws) ((kvs.map fun kv => if kv.1 = j then (kv.1, v) else kv).map fun p => p.2)
  | [], ws, kvs, _, hi, hw => by
    unfold IsL at hi
    cases kvs with
    | nil => exact ⟨IsL.nil, by rw [List.zipWith_nil_left]; exact IsL.nil⟩
    | cons p r => cases hi
  | k0 :: ks, ws, kvs, ha, hi, hw => by
    have ha' := Bool.and_eq_true_iff.mp (by simpa only [List.all_cons] using ha)
    cases kvs with
    | nil =>
      unfold IsL at hi
      obtain ⟨_, _, z, _⟩ := hi
      cases z
    | cons p r =>
      cases ws with
      | nil =>
        unfold IsL at hw
        cases hw
      | cons w0 ws =>
        unfold IsL at hi hw
        obtain ⟨v1, r1, e1, k1, k2⟩ := hi
        obtain ⟨v2, r2, e2, w1, w2⟩ := hw
        obtain ⟨rfl, rfl⟩ := List.cons.inj e1
        obtain ⟨rfl, rfl⟩ := List.cons.inj e2
        obtain ⟨q1, q2⟩ := putD_map hk ik iw ha'.2 k2 w2
        have eq := keyEq_of (H := G) ha'.1 hk k1 (.inl ik)
        rw [List.zipWith_cons_cons, eq, List.map_cons]
        by_cases c : p.1 = j
        · rw [if_pos c, decide_eq_true c]
          exact ⟨IsL.cons k1 q1, IsL.cons iw q2⟩
        · rw [if_neg c, decide_eq_false c]
          exact ⟨IsL.cons k1 q1, IsL.cons w1 q2⟩
theorem putD_is {k w : T} {j : Key} {v : V} {ks ws : List T} {kvs : List (Key × V)} (hk : isKey k = true) (ik : Is C G k (kV j)) (iw : Is C G w v) (ha : ks.all isKey = true) (hi : IsL C G ks (kvs.map fun p => kV p.1)) (hw : IsL C G ws (kvs.map fun p => p.2)) :
    IsL C G (putD ks ws k w).1 ((putK kvs j v).map fun p => kV p.1) ∧ IsL C G (putD ks ws k w).2 ((putK kvs j v).map fun p => p.2) ∧ (putD ks ws k w).1.all isKey = true := by
  have ea := flat_any (H := G) hk (.inl ik) ha hi
  unfold putD putK
  rw [ea]
  by_cases c : (kvs.any fun kv => decide (kv.1 = j)) = true
  · rw [if_pos c, if_pos c]
    obtain ⟨q1, q2⟩ := putD_map hk ik iw ha hi hw
    exact ⟨q1, q2, ha⟩
  · rw [if_neg c, if_neg c]
    refine ⟨?_, ?_, ?_⟩
    · rw [List.map_append]
      exact hi.app (IsL.one ik)
    · rw [List.map_append]
      exact hw.app (IsL.one iw)
    · show (ks ++ [k]).all isKey = true
      rw [List.all_append, ha]
      simpa using hk
end

/-! ### {k: v for target in iter if ..}, keys ints or texts -/
def ePair (fk fv : FE) : FE := fun ρ => (fk ρ).bind fun k => (fv ρ).bind fun v => .ok (.tup [k, v])
def dOf (s : Option (List T × List T)) (t : T) : Option (List T × List T) := match s, t with
  | some (ks, ws), .tup [k, w] => if isKey k then some (putD ks ws k w) else none
  | _, _ => none
def dFold (ts : List T) : Option (List T × List T) := ts.foldl dOf (some ([], []))
theorem dOf_none (ts : List T) : ts.foldl dOf none = none := by
  induction ts with
  | nil => rfl
  | cons t r ih => exact ih
theorem dFold_pre {ts us : List T} {p : List T × List T} (h : dFold (ts ++ us) = some p) : ∃ q, dFold ts = some q := by
  unfold dFold at h ⊢
  rw [List.foldl_append] at h
  cases e : ts.foldl dOf (some ([], [])) with
  | some q => exact ⟨q, rfl⟩
  | none => rw [e, dOf_none] at h; cases h
theorem dFold_snoc (ts : List T) (t : T) : dFold (ts ++ [t]) = dOf (dFold ts) t := by
  unfold dFold
  rw [List.foldl_append]
  rfl
def eDComp (fi : FI) (g : Tg) (own : List Nat) (fc fk fv : FE) : FE := fun ρ => (fi ρ).bind fun l => (compF g fc (ePair fk fv) l (wipeE ρ own)).bind fun ts => match dFold ts with
  | some (ks, ws) => if ts.length ≤ 99999 then .ok (.dic ks ws) else .bad
  | none => .bad
def dAcc (C : KM) (G : Hp) (us : List T) (o : HO) : Prop := ∃ (ks ws : List T) (kvs : List (Key × V)), dFold us = some (ks, ws) ∧ ks.all isKey = true ∧ o = .dK kvs ∧ IsL C G ks (kvs.map fun p => kV p.1) ∧ IsL C G ws (kvs.map fun p => p.2) ∧ kvs.length ≤ us.length
theorem dAcc_mono {C : KM} : ∀ G G' us o, Ex G G' → dAcc C G us o → dAcc C G' us o := fun G G' us o e ⟨ks, ws, kvs, h1, h2, h3, h4, h5, h6⟩ => ⟨ks, ws, kvs, h1, h2, h3, IsL.mono e _ _ h4, IsL.mono e _ _ h5, h6⟩
section
variable {X : Cx} {B : BS} {W : WX} {tg iter kx vx : Expr} {ifs : List Expr} {scope : Scope} {own : List (Str × Nat)} {pos p p2 : Pos} {fi : FI} {g : Tg} {fc fk fv : FE}
theorem d_dcomp (hc : X.calm = true) (hN : X.N.Nodup) (hi : DI X B W tg iter fi) (ok : BlkOk X.N X.env.scope scope own) (hw : ∀ i ∈ tgs g, i ∈ own.map (·.2))
    (hg : ∀ (s : Shared) (H : Hp) (C : Addr) (cl : List (Str × Addr)) (fp : List Addr), DG (X.blk s H scope (compEnvC scope cl C X.env) fp) tg g)
    (ht : ∀ (s : Shared) (H : Hp) (C : Addr) (cl : List (Str × Addr)) (fp : List Addr), DTs (X.blk s H scope (compEnvC scope cl C X.env) fp) B W0 ifs fc)
    (hk : ∀ (s : Shared) (H : Hp) (C : Addr) (cl : List (Str × Addr)) (fp : List Addr), DE (X.blk s H scope (compEnvC scope cl C X.env) fp) B W0 .E kx fk)
    (hv : ∀ (s : Shared) (H : Hp) (C : Addr) (cl : List (Str × Addr)) (fp : List Addr), DE (X.blk s H scope (compEnvC scope cl C X.env) fp) B W0 .E vx fv) (hs : ∀ x, foldedSetIterable iter X.env x = pure x := by intro _; rfl) :
    DE X B W .N (.DictComp kx vx [⟨tg, iter, ifs, 0⟩] scope pos) (eDComp fi g (own.map (·.2)) fc fk fv) := by
  refine PE.imp (pe_dc (g := tG X.K g) (tt := tMT (km X) B W0 fc) (tk := tM (km X) B .E W0 fk) (tv := tM (km X) B .E W0 fv) hc hN hi ok hg ht hk hv hs) fun σ H Q ⟨ρ, G, s, q⟩ => ?_
  refine ⟨ρ, G, s, ?_⟩
  unfold eDComp at q
  cases ei : fi ρ with
  | bad => rw [ei] at q; exact q
  | ex x p' => rw [ei] at q; exact q
  | ok l =>
    rw [ei] at q
    intro J H1 G1 g1 wk D hD
    have q1 : Post (km X) .N W σ H G ((compF g fc (ePair fk fv) l (wipeE ρ (own.map (·.2)))).bind fun ts => match dFold ts with | some (ks, ws) => if ts.length ≤ 99999 then .ok (.dic ks ws) else .bad | none => .bad) Q := q
    cases ec : compF g fc (ePair fk fv) l (wipeE ρ (own.map (·.2))) with
    | bad => rw [ec] at q1; exact q1.elim
    | ex x p' => exact (compF_noex _ _ _ ec).elim
    | ok ts =>
      rw [ec] at q1
      have q2 : Post (km X) .N W σ H G (match dFold ts with | some (ks, ws) => if ts.length ≤ 99999 then .ok (.dic ks ws) else .bad | none => .bad) Q := q1
      cases et : dFold ts with
      | none => rw [et] at q2; exact q2.elim
      | some kw =>
        obtain ⟨ks, ws⟩ := kw
        rw [et] at q2
        have q3 : Post (km X) .N W σ H G (if ts.length ≤ 99999 then .ok (.dic ks ws) else .bad) Q := q2
        split at q3
        · rename_i hl
          have s1 := s.ext g1
          refine comp_gen (C := km X) (Qd := Q (.ref D)) (dAcc (km X)) dAcc_mono hw wk s1 hD ?_ ec hl ?_ ?_
          · exact ⟨[], [], [], rfl, rfl, rfl, IsL.nil, IsL.nil, Nat.le_refl _⟩
          · intro σ3 H4 ρ1 G4 t tacc acc Nx s3 efe hD4 hA hlt hpre nx
            obtain ⟨r, hr⟩ := hpre
            obtain ⟨ks0, ws0, kvs, h1, h2, rfl, h4, h5, h6⟩ := hA
            have hf : ∃ p, dFold (tacc ++ [t]) = some p := by
              rw [← hr, show tacc ++ t :: r = (tacc ++ [t]) ++ r by simp] at et
              exact dFold_pre et
            unfold ePair at efe
            refine ⟨ρ1, G4, s3, ?_⟩
            cases ek : fk ρ1 with
            | bad => rw [ek] at efe; cases efe
            | ex _ _ => rw [ek] at efe; cases efe
            | ok k =>
              rw [ek] at efe
              intro v H5 G5 g5 ik
              refine ⟨ρ1, G5, s3.ext g5, ?_⟩
              have efe' : ((fv ρ1).bind fun v => Res.ok (T.tup [k, v])) = .ok t := efe
              cases ev : fv ρ1 with
              | bad => rw [ev] at efe'; cases efe'
              | ex _ _ => rw [ev] at efe'; cases efe'
              | ok w =>
                rw [ev] at efe'
                cases efe'
                intro z H6 G6 g6 iz
                obtain ⟨p, hp⟩ := hf
                rw [dFold_snoc, h1] at hp
                have hp' : (if isKey k then some (putD ks0 ws0 k w) else none) = some p := hp
                split at hp'
                · rename_i ck
                  have ik' : Is (km X) G5 k v := ik
                  obtain ⟨j, rfl⟩ := key_of (H := G5) ck (.inl ik')
                  have eG : Ex G4 G6 := g5.eg.trans g6.eg
                  obtain ⟨a1, a2, a3⟩ := putD_is ck (Is.mono g6.eg _ _ ik') (show Is (km X) G6 w z from iz) h2 (IsL.mono eG _ _ h4) (IsL.mono eG _ _ h5)
                  have hl2 := length_putK kvs j z
                  refine ⟨kvs, j, rfl, g6.eh _ _ (g5.eh _ _ hD4), sz_lt (by omega), nx H6 G6 _ (g5.trans g6) (g6.eh _ _ (g5.eh _ _ hD4)) ⟨(putD ks0 ws0 k w).1, (putD ks0 ws0 k w).2, putK kvs j z, ?_, a3, rfl, a1, a2, ?_⟩⟩
                  · rw [dFold_snoc, h1]
                    exact if_pos ck
                  · rw [List.length_append, List.length_singleton]
                    omega
                · cases hp'
          · intro H' G' acc gr hA' hn ⟨ks1, ws1, kvs, h1, h2, e, h4, h5, h6⟩
            subst e
            rw [et] at h1
            cases h1
            exact q3 _ H' G' (g1.trans gr) ⟨D, _, rfl, fresh_back g1.eh hD, hA', hn, kvs, rfl, h4, h5⟩
        · exact q3.elim
end

/-! ### xs.insert(i, e), xs one's own -/
def sIns (i : Nat) (fi fa : FE) : FS := fun ρ => match ρ[i]? with
  | some (.ow (.lst l)) => sLift ρ (fi ρ) fun k => sLift ρ (fa ρ) fun t => match k with
    | .int k => if 0 ≤ k ∧ k ≤ 100000 ∧ l.length < 100000 then .nx (ρ.set i (.ow (.lst (l.take k.toNat ++ [t] ++ l.drop k.toNat)))) else .bad
    | _ => .bad
  | _ => .bad
theorem st_ins (i : Nat) {X : Cx} {B : BS} {W : WX} {a b : Expr} {fa fb : FE} {x : Str} {p1 p2 p3 pos : Pos} (hN : X.N[i]? = some x) (hv : Vis X.env.scope x) (ha : DE X B W .E a fa) (hb : DE X B W .E b fb)
    (h : PE X (.Call (.Attribute (.Name x p1) "insert" p2) [a, b] [] p3) (tBM X.K "list" (fun x vs H Q => ∃ (l : Addr) (xs : List V) (i : Int) (y : V), x = .ref l ∧ vs = [.int i, y] ∧ H l = some (.lst xs) ∧ xs.length < sizeLine ∧ 0 ≤ i ∧ i < 2 ^ 63 ∧ Q .non (upd H l (.lst (xs.take i.toNat ++ [y] ++ xs.drop i.toNat))))
      (tVar i) (tCons (tM (km X) B .E W fa) (tCons (tM (km X) B .E W fb) tNil))))
    (hs : swapsWith (.Call (.Attribute (.Name x p1) "insert" p2) [a, b] [] p3) none pos.line X.env = pure false := by rfl) : DS X B W (.Expr (.Call (.Attribute (.Name x p1) "insert" p2) [a, b] [] p3) pos) (sIns i fa fb) :=
  PS.imp (ps_expr h hs) fun D σ H ⟨ρ, G, s, p⟩ => by
    unfold sIns at p
    split at p
    · rename_i l e
      obtain ⟨ad, o, h1, h2, h3, h4, vs, rfl, h5⟩ := s.ow i _ e
      refine ⟨.ref ad, h1, .inl ⟨rfl, vs, SqL.of h3⟩, bindSt (m := .E) s p fun k kv H1 G1 g s1 ik p1 => bindSt (m := .E) s1 p1 fun t v H2 G2 g2 s2 iv p2 => ?_⟩
      cases k with
      | int k =>
        have p3 : PostS (km X) B W D G2 (if 0 ≤ k ∧ k ≤ 100000 ∧ l.length < 100000 then .nx (ρ.set i (.ow (.lst (l.take k.toNat ++ [t] ++ l.drop k.toNat)))) else .bad) := p2
        split at p3
        · rename_i hl
          obtain ⟨ad', o', k1, k2, k3, k4, vs', rfl, k5⟩ := s2.ow i _ e
          rw [h1] at k1
          cases k1
          have ek := Md.int1 ik
          subst ek
          refine ⟨ad, vs', k, v, rfl, rfl, k3, sz_lt (by rw [← k5.length]; exact hl.2.2), hl.1, by omega, p3 σ _ G2 (s2.write (o := .lst vs') e h1 k2 k4 ⟨_, rfl, ((k5.take _).app (IsL.one iv)).app (k5.drop _)⟩) (Ex.refl _)⟩
        · exact p3.elim
      | _ => exact p2.elim
    · exact p.elim
end VS

namespace VS
open PySem PySem.Spec PyProof.Rows L2 Evl
/-- a block within a block, that reads nothing from around -/
def noFree (scope : Scope) : Bool := scope.names.all fun y => match y.2 with | .free => false | _ => true
theorem blkOk_in {N : List Str} {sc sc' scope : Scope} {own : List (Str × Nat)} (h : blkC N sc' scope own = true) (hf : noFree scope = true) : BlkOk N sc scope own := by
  have b := blkOk_by h
  refine ⟨b.kind, b.uniq, b.ix, fun y hy e => ?_, b.own⟩
  have z := List.all_eq_true.mp hf y hy
  simp only [e] at z
  cases z
/-- a def of which nothing is said -/
theorem ok_none {P : Program} {w : World} {K : PySem.W.Frag} {mg : Str → Option Value} {base : Heap} {x : Str} {st : Stmt} {N ps : List Str} {k n : Nat} (A : At K mg x st ps) (S : FnScope N ps (defScope st)) (hn : n = ps.length) (hk : 0 < k) : Ok P w K mg base (0 + k) x n (fun _ => .bad) := by
  obtain ⟨f, fd, g, F, b⟩ := A.ex
  obtain ⟨k, rfl⟩ : ∃ j, k = j + 1 := ⟨k - 1, by omega⟩
  rw [Nat.zero_add]
  exact ⟨f, fd, ps, g, F.kp, F.okX S (fun vs H Q E h => (spD_len h).trans hn) (fun cdv A outer s H vs Q E hr h => by
    obtain ⟨ts, G, _, _, _, p⟩ := h
    exact p.elim), b⟩
end VS

namespace VS
open PySem PySem.Spec PyProof.Rows L2 Evl
/-! ### isinstance(x, (T1, T2)), built-in types -/
def gIsi2 (m1 m2 : String) (x : T) : Option T := if tyOk m1 && tyOk m2 then (tyName x).map fun n => .bl (isiT n m1 || isiT n m2) else none
theorem d_isiT2 {X : Cx} {B : BS} {W : WX} {a : Expr} {fa : FE} {n1 n2 : String} {x1 x2 : Str} {p q1 q2 pt pos : Pos} {kk : Nat} (hg : Gl X "isinstance") (hm : X.mg "isinstance" = none) (ha : DE X B W .S a fa) (hg1 : Gl X x1) (hm1 : X.mg x1 = none) (hv1 : bootBuiltins x1 = some (.type n1)) (hg2 : Gl X x2) (hm2 : X.mg x2 = none) (hv2 : bootBuiltins x2 = some (.type n2))
    (hn1 : x1 ≠ "__name__" := by decide) (hd1 : (x1 == ("__debug__" : Str)) = false := by decide) (hn2 : x2 ≠ "__name__" := by decide) (hd2 : (x2 == ("__debug__" : Str)) = false := by decide)
    (hv : bootBuiltins "isinstance" = some (.builtin "isinstance") := by decide +kernel) (he : starEach [a, .Tuple [.Name x1 q1, .Name x2 q2] kk pt] X.env = (false, eval a X.env) :: starEach [.Tuple [.Name x1 q1, .Name x2 q2] kk pt] X.env := by rfl)
    (he2 : starEach [.Tuple [.Name x1 q1, .Name x2 q2] kk pt] X.env = (false, eval (.Tuple [.Name x1 q1, .Name x2 q2] kk pt) X.env) :: starEach [] X.env := by rfl)
    (he3 : starEach [.Name x1 q1, .Name x2 q2] X.env = (false, eval (.Name x1 q1) X.env) :: starEach [.Name x2 q2] X.env := by rfl) (he4 : starEach [.Name x2 q2] X.env = (false, eval (.Name x2 q2) X.env) :: starEach [] X.env := by rfl)
    (hpl : (backTo pos (starEach [.Tuple [.Name x1 q1, .Name x2 q2] kk pt] X.env)).any (·.1) = false := by rfl) : DE X B W .E (.Call (.Name "isinstance" p) [a, .Tuple [.Name x1 q1, .Name x2 q2] kk pt] [] pos) (eU (gIsi2 n1 n2) fa) :=
  PE.imp (pe_callB call_isiT hg hm hv (pa_cons ha (pa_cons (pe_tup (pa_cons (pe_bltn (v := .ty n1) hg1 hm1 hv1 rfl hn1 hd1) (pa_cons (pe_bltn (v := .ty n2) hg2 hm2 hv2 rfl hn2 hd2) pa_nil he4) he3)) pa_nil he2) he) (by decide) (by decide) he hpl) fun σ H Q ⟨ρ, G, s, q⟩ =>
    bindS s q fun x v H1 G1 g s1 i p1 => by
      obtain ⟨t, e, q1⟩ := p1.of
      unfold gIsi2 at e
      split at e
      · rename_i k
        obtain ⟨k1, k2⟩ := Bool.and_eq_true_iff.mp k
        cases e2 : tyName x with
        | none => rw [e2] at e; cases e
        | some nn =>
          rw [e2] at e
          obtain rfl := Option.some.inj e
          refine ⟨Nat.le_of_lt (small1000 (by show 2 ≤ 1000; decide)), fun tp ht => ?_⟩
          have g2 : Gr H1 G1 (upd H1 tp (.tup [.ty n1, .ty n2])) G1 := Gr.own s1.exGH ht
          refine ⟨v, tp, [.ty n1, .ty n2], .type nn, [.type n1, .type n2], isiT nn n1 || isiT nn n2, rfl, upd_same, .cons (.ty n1) (.cons (.ty n2) .nil), tyX_of (C := km X) g2.gh (i.mono g2) e2, ?_, q1 _ _ G1 g2 (show VS.Is (km X) G1 (.bl _) _ from Is.blI)⟩
          refine kitAny_cons (kit_ty (kitB_isi e2 k1)) (fun z => ?_) (fun z => by rw [z]; rfl)
          rw [z]
          refine kitAny_cons (kit_ty (kitB_isi e2 k2)) (fun z => ?_) (fun z => by rw [z]; rfl)
          rw [z]
          rfl
      · cases e
/-! ### d[k] = v, d a dict of one's own with keys that are ints or texts -/
def sDkPut (i : Nat) (fk fa : FE) : FS := fun ρ => sLift ρ (fa ρ) fun w => match ρ[i]? with
  | some (.ow (.dic ks ws)) => sLift ρ (fk ρ) fun k => if isKey k && (ks.all isKey && decide (ks.length < 100000)) then .nx (ρ.set i (.ow (.dic (putD ks ws k w).1 (putD ks ws k w).2))) else .bad
  | _ => .bad
theorem st_dkPut {X : Cx} {B : BS} {W : WX} {e k : Expr} {fe fk : FE} {i : Nat} {x : Str} {p pos' pos : Pos} (hu : X.A.units + 64 < cLine) (he : DE X B W .E e fe) (hk : DE X B W .E k fk) (hN : X.N[i]? = some x) (hv : Vis X.env.scope x) (hd : (x == ("__debug__" : Str)) = false := by decide) (hcd : (x == ("__classdict__" : Str)) = false := by decide)
    (hs : swapsWith e (some (.Subscript (.Name x p) k pos')) pos.line X.env = pure false := by rfl) : DS X B W (.Assign [.Subscript (.Name x p) k pos'] e pos) (sDkPut i fk fe) :=
  PS.imp (ps_dput (show X.A.units + 1 < cLine by omega) (pe_var hN hv hd hcd) hk he hs) fun D σ H ⟨ρ, G, s, q⟩ => bindSt (m := .E) s q fun w v H1 G1 g s1 iw p1 => by
    split at p1
    · rename_i ks ws e0
      obtain ⟨ad, o, h1, h2, h3, h4, kvs, rfl, h5, h6⟩ := s1.ow i _ e0
      refine ⟨.ref ad, h1, bindSt (m := .E) s1 p1 fun kt y H2 G2 g2 s2 ik p2 => ?_⟩
      split at p2
      · rename_i c
        obtain ⟨c1, c2⟩ := Bool.and_eq_true_iff.mp c
        obtain ⟨c2, c3⟩ := Bool.and_eq_true_iff.mp c2
        obtain ⟨ad', o', k1, k2, k3, k4, kvs', rfl, k5, k6⟩ := s2.ow i _ e0
        rw [h1] at k1
        cases k1
        have ik' : Is (km X) G2 kt y := ik
        obtain ⟨j, rfl⟩ := key_of (H := G2) c1 (.inl ik')
        obtain ⟨a1, a2, a3⟩ := putD_is c1 ik' (Is.mono g2.eg _ _ (show Is (km X) G1 w v from iw)) c2 k5 k6
        have hl : ks.length < 100000 := of_decide_eq_true c3
        have hl2 := k5.length
        rw [List.length_map] at hl2
        refine ⟨ad, _, rfl, DPut.k k3 (sz_lt (by rw [← hl2]; exact hl)), p2 σ _ G2 (s2.write (o := .dK kvs') e0 h1 k2 k4 ⟨_, rfl, a1, a2⟩) (Ex.refl _)⟩
      · exact p2.elim
    · exact p1.elim
end VS

namespace VS
open PySem PySem.Spec PyProof.Rows L2 Evl
/-! ### a goal about what a block does, from the left -/
/-- it answers with what Q says; it goes on with slots of which I holds -/
def Good (Q : T → Prop) (o : Out) : Prop := ∃ t, o = .rt t ∧ Q t
def GoodN (I : Ev' → Prop) (o : Out) : Prop := ∃ ρ, o = .nx ρ ∧ I ρ

section
variable {P : Out → Prop} {f g h : FS} {ρ ρ' : Ev'} {i : Nat} {fa fc : FE} {fi : FI} {t : T}
theorem pSeq (e : f ρ = .nx ρ') (k : P (g ρ')) : P (sSeq f g ρ) := by rw [sSeq_nx e]; exact k
theorem pSet (e : fa ρ = .ok t) (k : P (g (ρ.set i (.sh t)))) : P (sSeq (sSet i fa) g ρ) := pSeq (sSet_ok e) k
theorem pNew (e : fa ρ = .ok t) (k : P (g (ρ.set i (.ow t)))) : P (sSeq (sNew i fa) g ρ) := pSeq (sNew_ok e) k
theorem pExp (e : fa ρ = .ok t) (k : P (g ρ)) : P (sSeq (sExp fa) g ρ) := pSeq (sExp_ok e) k
theorem pNx (k : P (g ρ)) : P (sSeq sNx g ρ) := pSeq rfl k
theorem pRet (e : fa ρ = .ok t) (k : P (.rt t)) : P (sRet fa ρ) := by rw [sRet_ok e]; exact k
theorem pRetS (e : fa ρ = .ok t) (k : P (.rt t)) : P (sSeq (sRet fa) g ρ) := by rw [sSeq_rt (sRet_ok e)]; exact k
theorem pSeqRt (e : f ρ = .rt t) (k : P (.rt t)) : P (sSeq f g ρ) := by rw [sSeq_rt e]; exact k
theorem pAssoc (k : P (sSeq f (sSeq g h) ρ)) : P (sSeq (sSeq f g) h ρ) := by
  have e : sSeq (sSeq f g) h ρ = sSeq f (sSeq g h) ρ := by
    unfold sSeq
    cases f ρ <;> rfl
  rw [e]
  exact k
theorem pIf {b : Bool} (e : fc ρ = .ok (.bl b)) (kt : b = true → P (f ρ)) (kf : b = false → P (g ρ)) : P (sIf fc f g ρ) := by
  cases b with
  | true => rw [sIf_t e]; exact kt rfl
  | false => rw [sIf_f e]; exact kf rfl
theorem pIfS {b : Bool} (e : fc ρ = .ok (.bl b)) (kt : b = true → P (sSeq f h ρ)) (kf : b = false → P (sSeq g h ρ)) : P (sSeq (sIf fc f g) h ρ) := by
  have q : ∀ o : FS, sIf fc f g ρ = o ρ → sSeq (sIf fc f g) h ρ = sSeq o h ρ := fun o z => by unfold sSeq; rw [z]
  cases b with
  | true => rw [q f (sIf_t e)]; exact kt rfl
  | false => rw [q g (sIf_f e)]; exact kf rfl
theorem pIfT (e : fc ρ = .ok (.bl true)) (k : P (sSeq f h ρ)) : P (sSeq (sIf fc f g) h ρ) := pIfS e (fun _ => k) (fun z => by cases z)
theorem pIfF (e : fc ρ = .ok (.bl false)) (k : P (sSeq g h ρ)) : P (sSeq (sIf fc f g) h ρ) := pIfS e (fun z => by cases z) (fun _ => k)
theorem pAsg {tg : Tg} (e : fa ρ = .ok t) (es : setT tg t ρ = some ρ') (k : P (g ρ')) : P (sSeq (sAsg tg fa) g ρ) := by
  refine pSeq ?_ k
  unfold sAsg
  rw [e]
  show (match setT tg t ρ with | some ρ' => Out.nx ρ' | none => .bad) = _
  rw [es]
theorem pFrzS (k : P (sSeq f g (frz i ρ))) : P (sSeq (sFrz i f) g ρ) := k
theorem pFrz (k : P (f (frz i ρ))) : P (sFrz i f ρ) := k
theorem pApp {l : List T} (hl : ρ[i]? = some (.ow (.lst l))) (e : fa ρ = .ok t) (hn : l.length ≤ 1000) (k : P (g (ρ.set i (.ow (.lst (l ++ [t])))))) : P (sSeq (sApp i fa) g ρ) := pSeq (sApp_ok hl e (lt_big hn)) k
theorem sIns_ok {fk : FE} {l : List T} {n : Nat} (hl : ρ[i]? = some (.ow (.lst l))) (ek : fk ρ = .ok (.int (n : Nat))) (e : fa ρ = .ok t) (hn : l.length ≤ 1000) (h2 : n ≤ 1000) : sIns i fk fa ρ = .nx (ρ.set i (.ow (.lst (l.take n ++ [t] ++ l.drop n)))) := by
  have b1 : ((n : Nat) : Int) ≤ 100000 := Int.ofNat_le.mpr (le_big h2)
  have b0 : (0 : Int) ≤ (n : Nat) := by omega
  have b2 : l.length < 100000 := lt_big hn
  unfold sIns
  rw [hl, ek, e]
  show (if (0 : Int) ≤ (n : Nat) ∧ ((n : Nat) : Int) ≤ 100000 ∧ l.length < 100000 then Out.nx (ρ.set i (.ow (.lst (l.take ((n : Nat) : Int).toNat ++ [t] ++ l.drop ((n : Nat) : Int).toNat)))) else .bad) = _
  rw [if_pos ⟨b0, b1, b2⟩, Int.toNat_natCast]
theorem loop_range {body : FS} (I : Nat → Ev' → Prop) {N : Nat} : ∀ (j : Nat) (ρ : Ev') (L : List Nat), L = (List.range N).drop j → I j ρ → (∀ k, k < N → ∀ ρ, I k ρ → ∃ ρ1, body (ρ.set i (.sh (.int (k : Nat)))) = .nx ρ1 ∧ I (k + 1) ρ1) → j ≤ N →
    ∃ ρ', loopF (.nm i) body (L.map fun i => .int (i : Nat)) ρ = .nx ρ' ∧ I N ρ' := by
  intro j ρ L
  induction L generalizing j ρ with
  | nil =>
    intro e h0 h hj
    have e1 : N ≤ j := by
      have := congrArg List.length e
      simp at this
      omega
    obtain rfl : j = N := by omega
    exact ⟨ρ, rfl, h0⟩
  | cons a L ih =>
    intro e h0 h hj
    have hlt : j < N := by
      have := congrArg List.length e
      simp at this
      omega
    have e2 : (List.range N).drop j = j :: (List.range N).drop (j + 1) := by
      rw [List.drop_eq_getElem_cons (by simpa using hlt)]
      simp
    rw [e2] at e
    obtain ⟨rfl, rfl⟩ := List.cons.inj e
    obtain ⟨ρ1, b1, b2⟩ := h a hlt ρ h0
    obtain ⟨ρ', q1, q2⟩ := ih (a + 1) ρ1 rfl b2 h hlt
    refine ⟨ρ', ?_, q2⟩
    rw [List.map_cons]
    unfold loopF
    simp only [setT, b1, q1]
/-- for k in range(N): an invariant of k and the slots -/
theorem pForR (I : Nat → Ev' → Prop) {N : Nat} (hf : fi ρ = .ok ((List.range N).map fun i => .int (i : Nat))) (h0 : I 0 ρ) (hb : ∀ k, k < N → ∀ ρ, I k ρ → GoodN (I (k + 1)) (f (ρ.set i (.sh (.int (k : Nat)))))) (k : ∀ ρ', I N ρ' → P (g ρ')) : P (sSeq (sFor fi (.nm i) f) g ρ) := by
  obtain ⟨ρ', e, q⟩ := loop_range (i := i) (body := f) I 0 ρ (List.range N) rfl h0 hb (Nat.zero_le _)
  exact pSeq (sFor_ok hf e) (k ρ' q)
/-- for x in xs: an invariant of what is left and the slots; a turn goes on, or the block answers -/
theorem pFor {α : Type} {u : α → T} {tg : Tg} (I : List α → Ev' → Prop) {l : List α} (hf : fi ρ = .ok (l.map u)) (h0 : I l ρ) (hb : ∀ a r ρ, I (a :: r) ρ → ∃ ρ0, setT tg (u a) ρ = some ρ0 ∧ ((∃ ρ1, f ρ0 = .nx ρ1 ∧ I r ρ1) ∨ (∃ ρ1, f ρ0 = .ct ρ1 ∧ I r ρ1) ∨ ∃ t, f ρ0 = .rt t ∧ P (.rt t)))
    (k : ∀ ρ', I [] ρ' → P (g ρ')) : P (sSeq (sFor fi tg f) g ρ) := by
  have main : ∀ (l : List α) (ρ : Ev'), I l ρ → (∃ ρ', loopF tg f (l.map u) ρ = .nx ρ' ∧ I [] ρ') ∨ ∃ t, loopF tg f (l.map u) ρ = .rt t ∧ P (.rt t) := by
    intro l
    induction l with
    | nil => intro ρ q; exact .inl ⟨ρ, rfl, q⟩
    | cons a r ih =>
      intro ρ q
      obtain ⟨ρ0, e0, ⟨ρ1, e1, q1⟩ | ⟨ρ1, e1, q1⟩ | ⟨t, e1, q1⟩⟩ := hb a r ρ q
      · have z : loopF tg f ((a :: r).map u) ρ = loopF tg f (r.map u) ρ1 := by
          rw [List.map_cons]
          conv => lhs; unfold loopF
          simp only [e0, e1]
        rw [z]
        exact ih ρ1 q1
      · have z : loopF tg f ((a :: r).map u) ρ = loopF tg f (r.map u) ρ1 := by
          rw [List.map_cons]
          conv => lhs; unfold loopF
          simp only [e0, e1]
        rw [z]
        exact ih ρ1 q1
      · refine .inr ⟨t, ?_, q1⟩
        rw [List.map_cons]
        unfold loopF
        simp only [e0, e1]
  rcases main l ρ h0 with ⟨ρ', e, q⟩ | ⟨t, e, q⟩
  · exact pSeq (sFor_ok hf e) (k ρ' q)
  · exact pSeqRt (sFor_ok hf e) q
end
theorem gLen_map {α : Type} (l : List α) (u : α → T) : gLen (.lst (l.map u)) = some (.int (l.length : Nat)) := by
  show some (T.int ((l.map u).length : Nat)) = _
  rw [List.length_map]
theorem gLen_mapT {α : Type} (l : List α) (u : α → T) : gLen (.tup (l.map u)) = some (.int (l.length : Nat)) := by
  show some (T.int ((l.map u).length : Nat)) = _
  rw [List.length_map]
/-- a def's answer, by what its block does -/
theorem def_P {m : Nat} {f : FS} {ts : List T} {Q : T → Prop} (h : Good Q (f (ts.map Sl.sh ++ List.replicate (m - ts.length) Sl.un))) : ∃ t, fDef m f ts = .ok t ∧ Q t := by
  obtain ⟨t, e, q⟩ := h
  exact ⟨t, fDef_rt e, q⟩
theorem defN_rt {m : Nat} {f : FS} {ts : List T} {t : T} (h : f (ts.map Sl.sh ++ List.replicate (m - ts.length) Sl.un) = .rt t) : fDefN m f ts = .ok t := by unfold fDefN; rw [h]
theorem defN_P {m : Nat} {f : FS} {ts : List T} {Q : T → Prop} (h : Good Q (f (ts.map Sl.sh ++ List.replicate (m - ts.length) Sl.un))) : ∃ t, fDefN m f ts = .ok t ∧ Q t := by
  obtain ⟨t, e, q⟩ := h
  exact ⟨t, defN_rt e, q⟩
theorem defN_ex {m : Nat} {f : FS} {ts : List T} {ρ : Ev'} {x : Str} {p : List T} (h : f (ts.map Sl.sh ++ List.replicate (m - ts.length) Sl.un) = .ex x p ρ) : fDefN m f ts = .ex x p := by unfold fDefN; rw [h]
/-! ### comprehensions -/
section
variable {α : Type} {i : Nat} {is : List Nat} {fi : FI} {fc fe fk fv : FE} {ρ : Ev'} {u f : α → T} {p : α → Bool}
theorem compF_filter : ∀ {l : List α}, (∀ a ∈ l, fc (ρ.set i (.sh (u a))) = .ok (.bl (p a)) ∧ (p a = true → fe (ρ.set i (.sh (u a))) = .ok (f a))) → compF (.nm i) fc fe (l.map u) ρ = .ok ((l.filter p).map f)
  | [], _ => rfl
  | a :: l, h => by
    rw [List.map_cons]
    unfold compF
    simp only [setT]
    obtain ⟨h1, h2⟩ := h a List.mem_cons_self
    rw [h1]
    cases e : p a with
    | true =>
      simp only
      rw [h2 e, compF_filter fun b m => h b (List.mem_cons_of_mem _ m), List.filter_cons_of_pos e]
      rfl
    | false =>
      simp only
      rw [compF_filter fun b m => h b (List.mem_cons_of_mem _ m), List.filter_cons_of_neg (by rw [e]; exact Bool.false_ne_true)]
theorem eComp_filter {l : List α} (hi : fi ρ = .ok (l.map u)) (hl : l.length ≤ 1000) (h : ∀ a ∈ l, fc ((wipeE ρ is).set i (.sh (u a))) = .ok (.bl (p a)) ∧ (p a = true → fe ((wipeE ρ is).set i (.sh (u a))) = .ok (f a))) :
    eComp fi (.nm i) is fc fe ρ = .ok (.lst ((l.filter p).map f)) := by
  unfold eComp
  rw [hi]
  show (Res.bind (compF (.nm i) fc fe (l.map u) (wipeE ρ is)) fun ts => if ts.length ≤ 99999 then .ok (T.lst ts) else .bad) = _
  rw [compF_filter h]
  show (if ((l.filter p).map f).length ≤ 99999 then Res.ok (T.lst ((l.filter p).map f)) else .bad) = _
  rw [if_pos (by rw [List.length_map]; exact le_big9 (Nat.le_trans (List.length_filter_le _ _) hl))]
theorem keyEq_int (a b : Int) : keyEq (.int a) (.int b) = (a == b) := rfl
theorem dFold_keys {kf : α → Int} {wf : α → T} : ∀ (l A : List α), ((A ++ l).map kf).Nodup → (l.map fun a => T.tup [.int (kf a), wf a]).foldl dOf (some (A.map fun a => .int (kf a), A.map wf)) = some ((A ++ l).map fun a => .int (kf a), (A ++ l).map wf)
  | [], A, _ => by rw [List.append_nil]; rfl
  | a :: l, A, h => by
    rw [List.map_cons, List.foldl_cons]
    have e : dOf (some (A.map fun a => T.int (kf a), A.map wf)) (.tup [.int (kf a), wf a]) = some ((A ++ [a]).map fun a => .int (kf a), (A ++ [a]).map wf) := by
      show (if isKey (.int (kf a)) then some (putD (A.map fun a => T.int (kf a)) (A.map wf) (.int (kf a)) (wf a)) else none) = _
      rw [if_pos (show isKey (.int (kf a)) = true from rfl)]
      unfold putD
      rw [if_neg]
      · rw [List.map_append, List.map_append]
        rfl
      · intro z
        obtain ⟨x, hx, ex⟩ := List.any_eq_true.mp z
        obtain ⟨b, hb, rfl⟩ := List.mem_map.mp hx
        rw [keyEq_int] at ex
        have ex' : kf b = kf a := eq_of_beq ex
        rw [List.map_append, List.map_cons] at h
        have h2 := (List.nodup_append.mp h).2.2
        exact h2 (kf b) (List.mem_map_of_mem hb) (kf a) List.mem_cons_self ex'
    rw [e, dFold_keys l (A ++ [a]) (by rw [List.append_assoc]; exact h), List.append_assoc]
    rfl
theorem eDComp_keys {kf : α → Int} {wf : α → T} {l : List α} (hi : fi ρ = .ok (l.map u)) (hl : l.length ≤ 1000) (nd : (l.map kf).Nodup) (h : ∀ a ∈ l, fk ((wipeE ρ is).set i (.sh (u a))) = .ok (.int (kf a)) ∧ fv ((wipeE ρ is).set i (.sh (u a))) = .ok (wf a)) :
    eDComp fi (.nm i) is (eC (.bl true)) fk fv ρ = .ok (.dic (l.map fun a => .int (kf a)) (l.map wf)) := by
  unfold eDComp
  rw [hi]
  show (Res.bind (compF (.nm i) (eC (.bl true)) (ePair fk fv) (l.map u) (wipeE ρ is)) fun ts => match dFold ts with | some (ks, ws) => if ts.length ≤ 99999 then .ok (T.dic ks ws) else .bad | none => .bad) = _
  rw [compF_mapM (f := fun a => .tup [.int (kf a), wf a]) fun a m => by
    unfold ePair
    rw [(h a m).1]
    show (Res.bind (fv _) fun v => .ok (T.tup [.int (kf a), v])) = _
    rw [(h a m).2]
    rfl]
  show (match dFold (l.map fun a => T.tup [.int (kf a), wf a]) with | some (ks, ws) => if (l.map fun a => T.tup [.int (kf a), wf a]).length ≤ 99999 then Res.ok (T.dic ks ws) else .bad | none => .bad) = _
  have e := dFold_keys (kf := kf) (wf := wf) l [] nd
  unfold dFold
  rw [show (some ([], []) : Option (List T × List T)) = some (([] : List α).map (fun a => .int (kf a)), ([] : List α).map wf) from rfl, e]
  show (if (l.map fun a => T.tup [.int (kf a), wf a]).length ≤ 99999 then Res.ok (T.dic _ _) else .bad) = _
  rw [if_pos (by rw [List.length_map]; exact le_big9 hl)]
  rfl
theorem all_keys {kf : α → Int} (l : List α) : (l.map fun a => T.int (kf a)).all isKey = true := by
  rw [List.all_map]
  exact List.all_eq_true.mpr fun a _ => rfl
theorem gDIn_keys {kf : α → Int} {ws : List T} (l : List α) (o : Int) : gDIn false (.int o) (.dic (l.map fun a => .int (kf a)) ws) = some (.bl (l.any fun a => kf a == o)) := by
  unfold gDIn
  simp only [all_keys, isKey, Bool.and_self, if_true]
  rw [List.any_map]
  rfl
theorem gDGet_keys {kf : α → Int} {wf : α → T} (l : List α) (o : Int) : gDGet (.dic (l.map fun a => .int (kf a)) (l.map wf)) (.int o) = (l.find? fun a => kf a == o).map wf := by
  unfold gDGet
  simp only [all_keys, isKey, Bool.and_self, if_true]
  induction l with
  | nil => rfl
  | cons a l ih =>
    rw [List.map_cons, List.map_cons]
    unfold lookT
    rw [keyEq_int, List.find?_cons]
    cases e : kf a == o with
    | true => rfl
    | false => exact ih
end
theorem cutT_1 {α : Type} (l : List α) : cutT l (some 1) none = l.drop 1 := by
  unfold cutT HT.sIx
  simp only []
  rw [if_neg (by decide), show ((1 : Int).toNat) = 1 from rfl]
  by_cases h : 1 ≤ l.length
  · rw [Nat.min_eq_left h, List.take_of_length_le (by rw [List.length_drop]; exact Nat.le_refl _)]
  · rw [Nat.min_eq_right (by omega), Nat.sub_self, List.take_zero, List.drop_eq_nil_of_le (by omega)]
end VS

/-! things of one's own that are lent to a def -/
namespace VS
open PySem PySem.Spec PyProof.Rows L2 Evl

/-- the heap without what is lent -/
def mask (H : Hp) (F : List Addr) : Hp := fun x => if x ∈ F then none else H x
theorem mask_in {H : Hp} {F : List Addr} {x : Addr} (h : x ∈ F) : mask H F x = none := if_pos h
theorem mask_out {H : Hp} {F : List Addr} {x : Addr} (h : x ∉ F) : mask H F x = H x := if_neg h
theorem mask_some {H : Hp} {F : List Addr} {x : Addr} {o : HO} (h : mask H F x = some o) : x ∉ F ∧ H x = some o := by
  by_cases m : x ∈ F
  · rw [mask_in m] at h; cases h
  · rw [mask_out m] at h; exact ⟨m, h⟩
theorem mask_ex {H : Hp} {F : List Addr} : Ex (mask H F) H := fun _ _ h => (mask_some h).2
theorem mask_none {H : Hp} {F : List Addr} {x : Addr} (h : mask H F x = none) : x ∈ F ∨ H x = none := by
  by_cases m : x ∈ F
  · exact .inl m
  · rw [mask_out m] at h; exact .inr h
section
variable {C : KM} {B : BS} {σ : L2.St} {H G H' G' : Hp} {ρ : Ev'} {j : Nat} {v : V} {d d' : D} {F F' : List Addr}
/-- what was lent comes back -/
theorem SR.lend (s : SR C B σ H ρ G) (e : ρ[j]? = some (.dp d)) (ev : σ[j]? = some (some v)) (hd : Dv C B.w H G d v F) (g : Gr (mask H F) G H' G') (hd' : Dv C B.w H' G' d' v F') (nd : F'.Nodup)
    (hF' : ∀ x ∈ F', mask H F x = none ∧ G' x = none) : SR C B σ H' (ρ.set j (.dp d')) G' := by
  obtain ⟨Fp, h1, h2, h3, h4⟩ := s.dp
  obtain ⟨v', q1, q2, q3, q4⟩ := h1 j d e
  rw [ev] at q1
  cases q1
  have eF := hd.det (Ex.refl _) _ _ _ _ (fun x _ o z => z) q2
  subst eF
  have hk : ∀ x, x ∉ Fp j → ∀ o, H x = some o → H' x = some o := fun x m o z => g.eh x o (by rw [mask_out m]; exact z)
  have sp : ∀ x o, x ∉ Fp j → H x = some o → G x = none → G' x = none := fun x o m z y => g.sep x o y (by rw [mask_out m]; exact z)
  have bo : ∀ x o, B.1 x = some o → x ∉ Fp j := fun x o z m => by rw [(q4 x m).1] at z; cases z
  refine ⟨⟨fun x o z => hk x (bo x o z) o (s.gr.eh x o z), s.gr.eg.trans g.eg, g.gh, fun x o z y => sp x o (bo x o y) (s.gr.eh x o y) (s.gr.sep x o z y)⟩, fun k t z => ?_, fun k t z => ?_, fun k l t u a hkl z1 z2 z3 z4 => ?_, by rw [List.length_set]; exact s.len, fun k y p z => ?_, ?_⟩
  · rcases set_get z with ⟨_, w⟩ | ⟨_, w⟩
    · cases w
    · obtain ⟨u, k1, k2⟩ := s.sh k t w
      exact ⟨u, k1, Is.mono g.eg _ _ k2⟩
  · rcases set_get z with ⟨_, w⟩ | ⟨_, w⟩
    · cases w
    · obtain ⟨a, o, k1, k2, k3, k4, k5⟩ := s.ow k t w
      have na := h3 j k d t a e w k1
      exact ⟨a, o, k1, k2, hk a na o k3, sp a o na k3 k4, k5.mono g.eg⟩
  · rcases set_get z1 with ⟨_, w⟩ | ⟨_, w1⟩
    · cases w
    · rcases set_get z2 with ⟨_, w⟩ | ⟨_, w2⟩
      · cases w
      · exact s.ds k l t u a hkl w1 w2 z3 z4
  · rcases set_get z with ⟨_, w⟩ | ⟨_, w⟩
    · cases w
    · obtain ⟨a, cls, dd, k1, k2, k3⟩ := s.xn k y p w
      exact ⟨a, cls, dd, k1, k2, k3.mono g.eg⟩
  · have old : ∀ {k : Nat} {c : D} {x : Addr}, ρ[k]? = some (.dp c) → x ∈ Fp k → k ≠ j → x ∉ F' := fun {k c x} w m n m2 => by
      rcases mask_none (hF' x m2).1 with y | y
      · exact h2 k j c d x n w e m y
      · obtain ⟨u, _, k2, _⟩ := h1 k c w
        obtain ⟨o, ho⟩ := k2.there _ _ _ x m
        rw [y] at ho
        cases ho
    refine ⟨fun k => if k = j then F' else Fp k, fun k c z => ?_, fun k l c1 c2 x hkl z1 z2 m1 m2 => ?_, fun k l c t a z1 z2 z3 m => ?_, fun p mp c z => ?_⟩
    · rcases set_get z with ⟨rfl, w⟩ | ⟨n, w⟩
      · cases w
        simp only [if_true]
        refine ⟨v, ev, hd', nd, fun x m => ⟨?_, (hF' x m).2⟩⟩
        rcases mask_none (hF' x m).1 with w | w
        · exact (q4 x w).1
        · exact fresh_back s.gr.eh w
      · obtain ⟨u, k1, k2, k3, k4⟩ := h1 k c w
        simp only [if_neg n]
        have out : ∀ x ∈ Fp k, x ∉ Fp j := fun x m m2 => h2 k j c d x n w e m m2
        refine ⟨u, k1, k2.mono g.eg _ _ _ (fun x m o y => hk x (out x m) o y), k3, fun x m => ⟨(k4 x m).1, ?_⟩⟩
        obtain ⟨o, ho⟩ := k2.there _ _ _ x m
        exact sp x o (out x m) ho (k4 x m).2
    · simp only at m1 m2
      rcases set_get z1 with ⟨n1, w1⟩ | ⟨n1, w1⟩
      · rcases set_get z2 with ⟨n2, w2⟩ | ⟨n2, w2⟩
        · exact hkl (n1.trans n2.symm)
        · rw [if_pos n1] at m1
          rw [if_neg n2] at m2
          exact old w2 m2 n2 m1
      · rcases set_get z2 with ⟨n2, w2⟩ | ⟨n2, w2⟩
        · rw [if_neg n1] at m1
          rw [if_pos n2] at m2
          exact old w1 m1 n1 m2
        · rw [if_neg n1] at m1
          rw [if_neg n2] at m2
          exact h2 k l c1 c2 x hkl w1 w2 m1 m2
    · simp only at m
      rcases set_get z2 with ⟨_, w⟩ | ⟨_, w⟩
      · cases w
      · rcases set_get z1 with ⟨n1, w1⟩ | ⟨n1, w1⟩
        · rw [if_pos n1] at m
          rcases mask_none (hF' a m).1 with y | y
          · exact h3 j l d t a e w z3 y
          · obtain ⟨b, o, k1, _, k3, _⟩ := s.ow l t w
            rw [k1] at z3
            cases z3
            rw [y] at k3
            cases k3
        · rw [if_neg n1] at m
          exact h3 k l c t a w1 w z3 m
    · rcases set_get z with ⟨n1, w1⟩ | ⟨_, w1⟩
      · exact h4 p mp d (by rw [n1]; exact e)
      · exact h4 p mp c w1
end

/-! ### what is told back -/
def encOk : D → Bool
  | .dt _ _ => true
  | .ob _ _ ds => ds.all fun d => match d with | .sh _ => true | .ls _ => true | _ => false
  | _ => false
theorem strs_map (l : List Str) : strs? (l.map .str) = some l := by
  induction l with
  | nil => rfl
  | cons a l ih =>
    show (strs? (l.map .str)).map (a :: ·) = _
    rw [ih]
    rfl
theorem decFs_map : ∀ (ds : List D), (ds.all fun d => match d with | .sh _ => true | .ls _ => true | _ => false) = true → decFs (ds.map encF) = some ds
  | [], _ => rfl
  | d :: ds, h => by
    rw [List.all_cons, Bool.and_eq_true] at h
    have e : decF (encF d) = some d := by
      cases d with
      | sh t => rfl
      | ls l => rfl
      | _ => cases h.1
    rw [List.map_cons]
    unfold decFs
    rw [e, decFs_map ds h.2]
theorem enc_ref {C : KM} {w : World} {H G : Hp} {d : D} {v : V} {F : List Addr} (h : encOk d = true) (k : Dv C w H G d v F) : ∃ a, v = .ref a := by
  cases d with
  | dt ks ws =>
    unfold Dv at k
    obtain ⟨a, xs, vs, h1, _⟩ := k
    exact ⟨a, h1⟩
  | ob c ns ds =>
    unfold Dv at k
    obtain ⟨a, Cc, dx, vs, F', h1, _⟩ := k
    exact ⟨a, h1⟩
  | _ => cases h
theorem dec_enc {d : D} (h : encOk d = true) : dec (enc d) = some d := by
  cases d with
  | dt ks ws => rfl
  | ob c ns ds =>
    show (match strs? (ns.map .str), decFs (ds.map encF) with | some ns, some ds => some (D.ob c ns ds) | _, _ => none) = _
    rw [strs_map, decFs_map ds h]
  | _ => cases h

/-! ### a def that is lent something -/
inductive RB where
  | ok (t : T) (d : D) | ex (x : Str) (p : List T) (d : D) | bad
abbrev MirB := List T → D → RB
def outB (i : Nat) (o : Out) : RB :=
  match o with
  | .rt (.tup [u, e]) => (match dec e with | some d => .ok u d | none => .bad)
  | .nx ρ => (match ρ[i]? with | some (.dp d) => .ok .non d | _ => .bad)
  | .ex x p ρ => (match ρ[i]? with | some (.dp d) => .ex x p d | _ => .bad)
  | _ => .bad
def frB (i m : Nat) (ts : List T) (d : D) : Ev' := (ts.map Sl.sh).set i (.dp d) ++ List.replicate (m - ts.length) Sl.un
def fDefB (i m : Nat) (f : FS) : MirB := fun ts d => outB i (f (frB i m ts d))
/-- the arguments: at i what is lent, the others are shared -/
def IsB (C : KM) (G : Hp) (i : Nat) (v : V) (ts : List T) (vs : List V) : Prop := ts.length = vs.length ∧ vs[i]? = some v ∧ ∀ k t, k ≠ i → ts[k]? = some t → ∃ u, vs[k]? = some u ∧ Is C G t u
theorem IsB.mono {C : KM} {G G' : Hp} {i : Nat} {v : V} {ts : List T} {vs : List V} (e : Ex G G') (h : IsB C G i v ts vs) : IsB C G' i v ts vs :=
  ⟨h.1, h.2.1, fun k t n q => let ⟨u, q1, q2⟩ := h.2.2 k t n q; ⟨u, q1, Is.mono e _ _ q2⟩⟩
def PostB (C : KM) (w : World) (v : V) (Hm G : Hp) (r : RB) (Q : VK) (E : XK) : Prop :=
  match r with
  | .ok t d => ∀ u H' G' F', Gr Hm G H' G' → Is C G' t u → Dv C w H' G' d v F' → F'.Nodup → (∀ x ∈ F', Hm x = none ∧ G' x = none) → Q u H'
  | .ex x p d => ∀ cls dd H' G' F', Gr Hm G H' G' → XAt C x p cls dd G' → Dv C w H' G' d v F' → F'.Nodup → (∀ x ∈ F', Hm x = none ∧ G' x = none) → E cls dd H'
  | .bad => False
def spDB (C : KM) (w : World) (n i : Nat) (g : MirB) : Sp := fun vs H Q E => ∃ ts d a F G, Ex G H ∧ IsB C G i (.ref a) ts vs ∧ ts.length = n ∧ Dv C w H G d (.ref a) F ∧ F.Nodup ∧ (∀ x ∈ F, G x = none) ∧ PostB C w (.ref a) (mask H F) G (g ts d) Q E
theorem frB_get {i m : Nat} {ts : List T} {d : D} {k : Nat} {x : Sl} (hi : i < ts.length) (q : (frB i m ts d)[k]? = some x) : (k = i ∧ x = .dp d) ∨ (k ≠ i ∧ k < ts.length ∧ ∃ t, ts[k]? = some t ∧ x = .sh t) ∨ (ts.length ≤ k ∧ x = .un) := by
  unfold frB at q
  by_cases hk : k < ts.length
  · rw [List.getElem?_append_left (by simpa using hk)] at q
    rcases set_get q with ⟨rfl, z⟩ | ⟨n, z⟩
    · exact .inl ⟨rfl, z⟩
    · rw [List.getElem?_map] at z
      cases e : ts[k]? with
      | none => rw [e] at z; cases z
      | some t => rw [e] at z; cases z; exact .inr (.inl ⟨n, hk, t, rfl, rfl⟩)
  · rw [List.getElem?_append_right (by simpa using hk), List.getElem?_replicate] at q
    split at q
    · cases q; exact .inr (.inr ⟨by omega, rfl⟩)
    · cases q
theorem start_srB {C : KM} {w : World} {H G : Hp} {N : List Str} {ts : List T} {vs : List V} {d : D} {a : Addr} {F : List Addr} {i : Nat} (e : Ex G H) (hi : i < ts.length) (h : IsB C G i (.ref a) ts vs) (hd : Dv C w H G d (.ref a) F) (nd : F.Nodup) (hF : ∀ x ∈ F, G x = none) :
    SR C ⟨mask H F, G, none, .B a, w, [(i, a)]⟩ (L2.start N vs) H (frB i N.length ts d) G := by
  have st : ∀ {k : Nat} {u : V}, vs[k]? = some u → (L2.start N vs)[k]? = some (some u) := fun {k u} q => by
    unfold L2.start
    rw [List.getElem?_append_left (by rw [List.length_map]; exact (List.getElem?_eq_some_iff.mp q).1), List.getElem?_map, q]
    rfl
  exact {
    gr := ⟨mask_ex, Ex.refl _, e, fun _ _ g _ => g⟩
    sh := fun k t q => by
      rcases frB_get hi q with ⟨_, z⟩ | ⟨n, _, u, z1, z2⟩ | ⟨_, z⟩
      · cases z
      · cases z2
        obtain ⟨v, q1, q2⟩ := h.2.2 k t n z1
        exact ⟨v, st q1, q2⟩
      · cases z
    ow := fun k t q => by
      rcases frB_get hi q with ⟨_, z⟩ | ⟨n, _, u, z1, z2⟩ | ⟨_, z⟩
      · cases z
      · cases z2
      · cases z
    ds := fun k l t u b _ q _ _ _ => by
      rcases frB_get hi q with ⟨_, z⟩ | ⟨n, _, u, z1, z2⟩ | ⟨_, z⟩
      · cases z
      · cases z2
      · cases z
    len := by
      unfold L2.start frB
      rw [List.length_append, List.length_append, List.length_set, List.length_map, List.length_map, List.length_replicate, List.length_replicate, h.1]
    xn := fun k x p q => by
      rcases frB_get hi q with ⟨_, z⟩ | ⟨n, _, u, z1, z2⟩ | ⟨_, z⟩
      · cases z
      · cases z2
      · cases z
    dp := by
      have dpAt : ∀ {k : Nat} {c : D}, (frB i N.length ts d)[k]? = some (.dp c) → k = i ∧ c = d := fun {k c} q => by
        rcases frB_get hi q with ⟨z1, z⟩ | ⟨n, _, u, z1, z2⟩ | ⟨_, z⟩
        · cases z; exact ⟨z1, rfl⟩
        · cases z2
        · cases z
      refine ⟨fun _ => F, fun k c q => ?_, fun k l c1 c2 x n q1 q2 _ _ => ?_, fun k l c t b q1 q2 _ => ?_, fun p mp c q => ?_⟩
      · obtain ⟨rfl, rfl⟩ := dpAt q
        exact ⟨.ref a, st h.2.1, hd, nd, fun x m => ⟨mask_in m, hF x m⟩⟩
      · exact n ((dpAt q1).1.trans (dpAt q2).1.symm)
      · rcases frB_get hi q2 with ⟨_, z⟩ | ⟨n, _, u, z1, z2⟩ | ⟨_, z⟩
        · cases z
        · cases z2
        · cases z
      · obtain rfl := List.mem_singleton.mp mp
        exact st h.2.1 }
theorem def_okB {P : Program} {w : World} {K : PySem.W.Frag} {mg : Str → Option Value} {base : Heap} {x qual : Str} {st : Stmt} {f : Addr} {fd : FuncData} {N ps : List Str} {k n i : Nat} {fs : FS} (F : Fun K x qual st f fd) (S : FnScope N ps (defScope st)) (hn : n = ps.length) (hi : i < n)
    (hbody : ∀ (cdv : Value) (A : Around) (outer : List Env) (s : Shared) (H Hm G : Hp) (a : Addr) (E : XK), Room k (A.deeper (envOfC qual (defScope st) s.heap.objs.size f cdv)) →
      DSs (cxOf (L2.CX P w) P w K mg base N qual (defScope st) f cdv A outer s H E) ⟨Hm, G, none, .B a, w, [(i, a)]⟩ (fun cls d _ H' => E cls d H') (defBody st) fs) :
    FnOk P w K mg base (L2.CX P w) (k + 1) f fd ps (spDB ⟨K, mg⟩ w n i (fDefB i N.length fs)) := by
  refine F.okX S (fun vs H Q E ⟨ts, d, a, F, G, _, h1, h2, _⟩ => by rw [← h1.1]; exact h2.trans hn) (fun cdv A outer s H vs Q E hr h => ?_)
  obtain ⟨ts, d, a, FF, G, ex, is, hl, hd, nd, hF, p⟩ := h
  refine ⟨_, hbody cdv A outer s H (mask H FF) G a E hr, _, G, start_srB ex (by omega) is hd nd hF, ?_⟩
  unfold fDefB outB at p
  have back : ∀ {σ' : L2.St} {H' G' : Hp} {ρ : Ev'} {c : D}, SR ⟨K, mg⟩ ⟨mask H FF, G, none, .B a, w, [(i, a)]⟩ σ' H' ρ G' → ρ[i]? = some (.dp c) → ∃ F', Dv ⟨K, mg⟩ w H' G' c (.ref a) F' ∧ F'.Nodup ∧ ∀ x ∈ F', mask H FF x = none ∧ G' x = none := fun {σ' H' G' ρ c} s q => by
    obtain ⟨Fp, h1, _, _, h4⟩ := s.dp
    obtain ⟨v, q1, q2, q3, q4⟩ := h1 i c q
    have q5 := h4 (i, a) (List.mem_singleton.mpr rfl) c q
    rw [q1] at q5
    cases q5
    exact ⟨Fp i, q2, q3, q4⟩
  cases q : fs (frB i N.length ts d) with
  | nx ρ =>
    rw [q] at p
    intro σ' H' G' s' _
    cases z : ρ[i]? with
    | none => simp only [z] at p; exact p.elim
    | some y =>
      cases y with
      | dp c =>
        simp only [z] at p
        obtain ⟨F', k1, k2, k3⟩ := back s' z
        exact p .non H' G' F' s'.gr Is.nonI k1 k2 k3
      | _ => simp only [z] at p; exact p.elim
  | rt t =>
    rw [q] at p
    intro v H' G' g' is'
    obtain ⟨u, c, F', rfl, e1, k1, k2, k3, k4⟩ := is'
    simp only [e1] at p
    exact p v H' G' F' g' k1 k2 k3 k4
  | bk ρ => rw [q] at p; exact p.elim
  | ct ρ => rw [q] at p; exact p.elim
  | ex x y ρ =>
    rw [q] at p
    intro cls dd σ' H' G' s' _ i'
    cases z : ρ[i]? with
    | none => simp only [z] at p; exact p.elim
    | some y =>
      cases y with
      | dp c =>
        simp only [z] at p
        obtain ⟨F', k1, k2, k3⟩ := back s' z
        exact p cls dd H' G' F' s'.gr i' k1 k2 k3
      | _ => simp only [z] at p; exact p.elim
  | bad => rw [q] at p; exact p
structure OkB (P : Program) (w : World) (K : PySem.W.Frag) (mg : Str → Option Value) (base : Heap) (k : Nat) (x : Str) (n i : Nat) (m : MirB) : Prop where
  ex : ∃ (f : Addr) (fd : FuncData) (ps : List Str), mg x = some (.ref f) ∧ PySem.W.keepIn K (.ref f) = true ∧ FnOk P w K mg base (L2.CX P w) k f fd ps (spDB ⟨K, mg⟩ w n i m) ∧ Binds K fd ps []
theorem okOB {P : Program} {w : World} {K : PySem.W.Frag} {mg : Str → Option Value} {base : Heap} {x : Str} {st : Stmt} {N ps : List Str} {k n i : Nat} {fs : FS} {m : MirB} (A : At K mg x st ps) (S : FnScope N ps (defScope st)) (hn : n = ps.length) (hi : i < n) (hm : m = fDefB i N.length fs)
    (hbody : ∀ (f : Addr) (cdv : Value) (A : Around) (outer : List Env) (s : Shared) (H Hm G : Hp) (a : Addr) (E : XK), Room k (A.deeper (envOfC x (defScope st) s.heap.objs.size f cdv)) →
      DSs (cxOf (L2.CX P w) P w K mg base N x (defScope st) f cdv A outer s H E) ⟨Hm, G, none, .B a, w, [(i, a)]⟩ (fun cls d _ H' => E cls d H') (defBody st) fs) :
    OkB P w K mg base (k + 1) x n i m := by
  obtain ⟨f, fd, g, F, b⟩ := A.ex
  rw [hm]
  exact ⟨f, fd, ps, g, F.kp, def_okB F S hn hi (hbody f), b⟩

/-! ### its return -/
def sRetB (i : Nat) (fa : FE) : FS := fun ρ => sLift ρ (fa ρ) fun t => match ρ[i]? with | some (.dp d) => if encOk d then .rt (.tup [t, enc d]) else .bad | _ => .bad
section
variable {X : Cx} {B : BS} {W : WX} {e : Expr} {es : List Expr} {fa : FE} {fr : FA} {pos p : Pos} {i : Nat}
theorem st_retB (i : Nat) {a : Addr} (he : DE X B W .E e fa) (hm : B.rm = .B a := by rfl) (hb : B.bi = [(i, a)] := by rfl) : DS X B W (.Return (some e) pos) (sRetB i fa) := PS.imp (ps_ret he) fun D σ H ⟨ρ, G, s, p⟩ => bindSt (m := .E) s p fun t v H1 G1 g s1 it p1 => by
  split at p1
  · rename_i d e0
    split at p1
    · rename_i ok
      obtain ⟨Fp, h1, _, _, h4⟩ := s1.dp
      obtain ⟨u, q1, q2, q3, q4⟩ := h1 i d e0
      have q5 := h4 (i, a) (by rw [hb]; exact List.mem_singleton.mpr rfl) d e0
      rw [q1] at q5
      cases q5
      refine p1 v H1 G1 s1.gr ?_
      rw [hm]
      exact ⟨t, d, Fp i, rfl, dec_enc ok, it, q2, q3, q4⟩
    · exact p1.elim
  · exact p1.elim
theorem st_retNB (i : Nat) {a : Addr} (hm : B.rm = .B a := by rfl) (hb : B.bi = [(i, a)] := by rfl) : DS X B W (.Return none pos) (sRetB i (eC .non)) := PS.imp ps_retN fun D σ H ⟨ρ, G, s, p1⟩ => by
  have p1 : PostS (km X) B W D G (match ρ[i]? with | some (.dp d) => if encOk d then Out.rt (.tup [.non, enc d]) else .bad | _ => .bad) := p1
  split at p1
  · rename_i d e0
    split at p1
    · rename_i ok
      obtain ⟨Fp, h1, _, _, h4⟩ := s.dp
      obtain ⟨u, q1, q2, q3, q4⟩ := h1 i d e0
      have q5 := h4 (i, a) (by rw [hb]; exact List.mem_singleton.mpr rfl) d e0
      rw [q1] at q5
      cases q5
      refine p1 .non H G s.gr ?_
      rw [hm]
      exact ⟨.non, d, Fp i, rfl, dec_enc ok, Is.nonI, q2, q3, q4⟩
    · exact p1.elim
  · exact p1.elim

/-! ### arguments, one of them lent -/
def PostAB (C : KM) (W : WX) (σ : L2.St) (i j : Nat) (H G : Hp) (r : Res (List T)) (Q : List V → Hp → Prop) : Prop :=
  match r with
  | .ok ts => ∀ v vs H' G', σ[j]? = some (some v) → Gr H G H' G' → IsB C G' i v ts vs → Q vs H'
  | .ex x p => ∀ cls d H' G', Gr H G H' G' → XAt C x p cls d G' → W cls d σ H'
  | .bad => False
def tAB (C : KM) (B : BS) (W : WX) (i j : Nat) (f : FA) : TA := fun σ H Q => ∃ ρ G d, SR C B σ H ρ G ∧ ρ[j]? = some (.dp d) ∧ PostAB C W σ i j H G (f ρ) Q
def DAB (X : Cx) (B : BS) (W : WX) (i j : Nat) (es : List Expr) (f : FA) : Prop := PA X es (tAB (km X) B W i j f)
theorem ab_first (j : Nat) {x : Str} {pos : Pos} (hr : DA X B W .E es fr) (hN : X.N[j]? = some x := by rfl) (hv : Vis X.env.scope x := by first | exact Or.inl rfl | exact Or.inr (Or.inl rfl) | exact Or.inr (Or.inr rfl)) (hd : (x == ("__debug__" : Str)) = false := by decide)
    (hcd : (x == ("__classdict__" : Str)) = false := by decide) (hs : starEach (.Name x pos :: es) X.env = (false, eval (.Name x pos) X.env) :: starEach es X.env := by rfl) : DAB X B W 0 j (.Name x pos :: es) (aCons (eC .non) fr) :=
  PA.imp (pa_cons (pe_var hN hv hd hcd) hr hs) fun σ H Q ⟨ρ, G, d, s, e, p⟩ => by
    obtain ⟨v, F, q1, _⟩ := s.dpAt e
    refine ⟨v, q1, ρ, G, s, ?_⟩
    unfold aCons at p
    have p : PostAB (km X) W σ 0 j H G ((fr ρ).bind fun xs => .ok (.non :: xs)) Q := p
    cases er : fr ρ with
    | ok ts =>
      rw [er] at p
      intro vs H2 G2 g2 i2
      refine p v (v :: vs) H2 G2 q1 g2 ⟨?_, rfl, fun k t n z => ?_⟩
      · show ts.length + 1 = vs.length + 1
        rw [IsL.length i2]
      · cases k with
        | zero => exact (n rfl).elim
        | succ k =>
          obtain ⟨u, k1, k2⟩ := IsL.get i2 z
          exact ⟨u, k1, k2⟩
    | ex x q =>
      rw [er] at p
      exact p
    | bad =>
      rw [er] at p
      exact p
theorem ab_cons {i j : Nat} {a : Expr} (ha : DE X B W .E a fa) (hr : DAB X B W i j es fr) (hs : starEach (a :: es) X.env = (false, eval a X.env) :: starEach es X.env := by rfl) : DAB X B W (i + 1) j (a :: es) (aCons fa fr) :=
  PA.imp (pa_cons ha hr hs) fun σ H Q ⟨ρ, G, d, s, e, p⟩ => by
    refine ⟨ρ, G, s, ?_⟩
    unfold aCons at p
    cases ea : fa ρ with
    | ok t =>
      rw [ea] at p
      intro v H1 G1 g1 i1
      refine ⟨ρ, G1, d, s.ext g1, e, ?_⟩
      have p : PostAB (km X) W σ (i + 1) j H G ((fr ρ).bind fun xs => .ok (t :: xs)) Q := p
      cases er : fr ρ with
      | ok ts =>
        rw [er] at p
        intro u vs H2 G2 hu g2 i2
        refine p u (v :: vs) H2 G2 hu (g1.trans g2) ⟨?_, i2.2.1, fun k y n z => ?_⟩
        · show ts.length + 1 = vs.length + 1
          rw [i2.1]
        · cases k with
          | zero =>
            cases (show some t = some y from z)
            exact ⟨v, rfl, Is.mono g2.eg _ _ i1⟩
          | succ k => exact i2.2.2 k y (fun q => n (by rw [q])) z
      | ex x q =>
        rw [er] at p
        exact fun cls d H' G' g i => p cls d H' G' (g1.trans g) i
      | bad =>
        rw [er] at p
        exact p
    | ex x q =>
      rw [ea] at p
      exact p
    | bad =>
      rw [ea] at p
      exact p

/-! ### the call, a statement -/
def runB (j n : Nat) (g : MirB) (fr : FA) (k : T → Ev' → Out) : FS := fun ρ => match fr ρ with
  | .ok ts => if ts.length = n then (match ρ[j]? with
    | some (.dp d) => if encOk d then (match g ts d with
      | .ok t d' => k t (ρ.set j (.dp d'))
      | .ex x p d' => .ex x p (ρ.set j (.dp d'))
      | .bad => .bad) else .bad
    | _ => .bad) else .bad
  | .ex x p => (match ρ[j]? with | some (.dp _) => .ex x p ρ | _ => .bad)
  | .bad => .bad
def sSetB (i j n : Nat) (g : MirB) (fr : FA) : FS := runB j n g fr fun t ρ => .nx (ρ.set i (.sh t))
def sExpB (j n : Nat) (g : MirB) (fr : FA) : FS := runB j n g fr fun _ ρ => .nx ρ
variable {k n j : Nat} {g : MirB} {x : Str}
theorem runB_of {D : Ends} {σ : L2.St} {H G : Hp} {ρ : Ev'} {kk : T → Ev' → Out} {Q : VK} (hw : B.w = X.w) (s : SR (km X) B σ H ρ G) (p : PostS (km X) B W D G (runB j n g fr kk ρ))
    (hq : ∀ t v H1 G1 ρ1, SR (km X) B σ H1 ρ1 G1 → Is (km X) G1 t v → PostS (km X) B W D G1 (kk t ρ1) → Q v H1) (hi : i < n) : tCallS (spDB (km X) X.w n i g) (WE W) (tAB (km X) B W i j fr) σ H Q := by
  unfold runB at p
  cases er : fr ρ with
  | ok ts =>
    simp only [er] at p
    split at p
    · rename_i hl
      split at p
      · rename_i d e0
        refine ⟨ρ, G, d, s, e0, ?_⟩
        rw [er]
        split at p
        rotate_left
        · exact p.elim
        rename_i hok
        intro v vs H1 G1 hv g1 ib
        have s1 := s.ext g1
        obtain ⟨v', F, q1, q2, q3, q4⟩ := s1.dpAt e0
        rw [hv] at q1
        cases q1
        obtain ⟨a, rfl⟩ := enc_ref hok q2
        rw [hw] at q2
        refine ⟨ts, d, a, F, G1, s1.exGH, ib, hl, q2, q3, fun x m => (q4 x m).2, ?_⟩
        cases rg : g ts d with
        | ok t d' =>
          simp only [rg] at p
          intro u H2 G2 F2 g2 iu hd2 nd2 hF2
          have s2 := s1.lend e0 hv (by rw [hw]; exact q2) g2 (by rw [hw]; exact hd2) nd2 hF2
          exact hq t u H2 G2 _ s2 iu (PostS.mono (g1.eg.trans g2.eg) p)
        | ex y q d' =>
          simp only [rg] at p
          intro cls dd H2 G2 F2 g2 ix hd2 nd2 hF2
          have s2 := s1.lend e0 hv (by rw [hw]; exact q2) g2 (by rw [hw]; exact hd2) nd2 hF2
          exact p cls dd σ H2 G2 s2 (g1.eg.trans g2.eg) ix
        | bad => simp only [rg] at p; exact p.elim
      · exact p.elim
    · exact p.elim
  | ex y q =>
    simp only [er] at p
    split at p
    · rename_i d e0
      refine ⟨ρ, G, d, s, e0, ?_⟩
      rw [er]
      exact fun cls dd H' G' g' ix => p cls dd σ H' G' (s.ext g') g'.eg ix
    · exact p.elim
  | bad =>
    simp only [er] at p
    exact p.elim
section
variable {e : Expr} {es : List Expr}
theorem st_setB {i0 : Nat} {y : Str} {pos' spos : Pos} (O : OkB X.prog X.w X.K X.mg X.base k x n i g) (hr : Room k X.A) (hg : Gl X x) (tk : Tk X W) (ha : DAB X B W i j (e :: es) fr) (hN : X.N.Nodup) (hi0 : X.N[i0]? = some y) (hy : Loc X.env.scope y) (hin : i < n := by decide) (hdb : (x == ("__debug__" : Str)) = false := by decide)
    (he : starEach (e :: es) X.env = (false, eval e X.env) :: starEach es X.env := by rfl) (hpl : (backTo pos (starEach es X.env)).any (·.1) = false := by rfl) (hw : B.w = X.w := by rfl)
    (hs : swapsWith (.Call (.Name x p) (e :: es) [] pos) (some (.Name y pos')) spos.line X.env = pure false := by rfl) (hf : X.fn y = true ∨ X.env.scope.names.lookup y = some .local := by first | exact .inl rfl | exact .inr rfl | assumption) :
    DS X B W (.Assign [.Name y pos'] (.Call (.Name x p) (e :: es) [] pos) spos) (sSetB i0 j n g fr) := by
  obtain ⟨f, fd, ps, h1, h2, h3, h4⟩ := O.ex
  exact PS.imp (ps_set hN hi0 hy (pe_callS h3 hr hg h1 h2 h4 tk ha hdb he hpl) hs hf) fun D σ H ⟨ρ, G, s, p⟩ => runB_of hw s p (fun t v H1 G1 ρ1 s1 it p1 => p1 _ H1 G1 (s1.setSh it) (Ex.refl _)) hin
theorem st_expB {spos : Pos} (O : OkB X.prog X.w X.K X.mg X.base k x n i g) (hr : Room k X.A) (hg : Gl X x) (tk : Tk X W) (ha : DAB X B W i j (e :: es) fr) (hin : i < n := by decide) (hdb : (x == ("__debug__" : Str)) = false := by decide)
    (he : starEach (e :: es) X.env = (false, eval e X.env) :: starEach es X.env := by rfl) (hpl : (backTo pos (starEach es X.env)).any (·.1) = false := by rfl) (hw : B.w = X.w := by rfl)
    (hs : swapsWith (.Call (.Name x p) (e :: es) [] pos) none spos.line X.env = pure false := by rfl) :
    DS X B W (.Expr (.Call (.Name x p) (e :: es) [] pos) spos) (sExpB j n g fr) := by
  obtain ⟨f, fd, ps, h1, h2, h3, h4⟩ := O.ex
  exact PS.imp (ps_expr (pe_callS h3 hr hg h1 h2 h4 tk ha hdb he hpl) hs) fun D σ H ⟨ρ, G, s, p⟩ => runB_of hw s p (fun t v H1 G1 ρ1 s1 it p1 => p1 σ H1 G1 s1 (Ex.refl _)) hin
end
end
end VS

/-! for x in d, d a dict of one's own with nested keys; a slot that is let go -/
namespace VS
open PySem PySem.Spec PyProof.Rows L2 Evl
section
variable {X : Cx} {pins : List (Addr × Obj)} {σ : L2.St} {H : Hp} {s : Shared} {d : Addr} {o : Obj} {xs : List (NestedKey × Addr × Value)}
theorem frzN (I : Inv X pins σ H s) (h : H d = some (.frz o (NdO X.w d xs))) : s.heap.get? d = some o ∧ o.ExactDict ∧ ∃ (es : Array DictEntry) (ep : Nat), o.data = .dict es ep ∧ es.size = xs.length ∧
    ∀ (i : Nat) y, xs[i]? = some y → ∃ en, es[i]? = some en ∧ en.key = .ref y.2.1 := by
  obtain ⟨hg, ⟨o', es, ep, h1, h2, h3, h4, h5⟩, _⟩ := I.hok d _ h
  rw [hg] at h1
  cases h1
  refine ⟨hg, h2, es, ep, h3, ?_, fun i y q => ?_⟩
  · have := congrArg List.length h4
    rw [List.length_map, Array.length_toList] at this
    exact this
  · have := congrArg (fun l => l[i]?) h4
    simp only [List.getElem?_map, q, Option.map_some, Array.getElem?_toList] at this
    exact ⟨_, this, rfl⟩
end
def Itn (w : World) (d : Addr) (o : Obj) (xs : List (NestedKey × Addr × Value)) : It :=
  ⟨fun i H => H d = some (.frz o (NdO w d xs)) ∧ i < xs.length, fun i H x H' => H' = H ∧ ∃ y, xs[i]? = some y ∧ x = .ref y.2.1, fun i H => H d = some (.frz o (NdO w d xs)) ∧ xs.length ≤ i⟩
theorem turn_nd {P : Program} {w : World} {K : PySem.W.Frag} {tg : Expr} {d : Addr} {o : Obj} {es : Array DictEntry} {ep : Nat} {xs : List (NestedKey × Addr × Value)} (it : Addr) (hod : o.data = .dict es ep) :
    Turn P w K tg (Itn w d o xs) [it] it (fun i h => h.IsKeyIter it d i xs.length ep) where
  mem := by simp
  obj := fun i h st b hb => by
    have e : b = it := by simpa using hb
    subst e
    obtain ⟨oi, e, c, dd⟩ := st
    exact ⟨oi, e, fun v z => by rw [dd] at z; cases z⟩
  keep := fun i h h' st k => st.at fun oi e => k it (by simp) oi e
  item := by
    intro X hP hw hK hc i pins s σ H E I hf st hg
    subst hP hw hK
    obtain ⟨hd, hi⟩ := hg
    obtain ⟨f0, f1, f2, f3, f4, f5⟩ := hf it (by simp)
    obtain ⟨hgd, hx, es', ep', hdt, hsz, ent⟩ := frzN I hd
    obtain ⟨rfl, rfl⟩ := dict_ep hod hdt
    obtain ⟨y, hy⟩ : ∃ y, xs[i]? = some y := ⟨xs[i], List.getElem?_eq_getElem hi⟩
    obtain ⟨en, hen, hkey⟩ := ent i y hy
    refine next_key_item st hgd hdt hsz hen fun h' st' sb => ?_
    have I1 : Inv X pins σ H { s with heap := h' } := I.turned (t' := s.toks) (fun b ob hb e => (sb.2 b hb).trans e) f0 f1 f3 f4 f5
    obtain ⟨oi, e, c, dd⟩ := id st'
    exact ⟨en.key, rfl, go_of (s := { s with heap := h' }) e c dd (by decide) ⟨.ref y.2.1, H, I1, hkey, ⟨rfl, y, hy, rfl⟩, st', fun b hb => (hf b hb).1⟩⟩
  done := by
    intro X hP hw hK hc i pins s σ H E I hf st hg
    subst hP hw hK
    obtain ⟨hd, hi⟩ := hg
    obtain ⟨f0, f1, f2, f3, f4, f5⟩ := hf it (by simp)
    obtain ⟨hgd, hx, es', ep', hdt, hsz, ent⟩ := frzN I hd
    obtain ⟨rfl, rfl⟩ := dict_ep hod hdt
    exact next_key_end (I.ok.hd hc) st hgd hdt hsz hi fun h' eb => ⟨rfl, I.turned (t' := s.toks) (fun b ob hb e => eb b ob hb e) f0 f1 f3 f4 f5⟩
  self := fun A i s Q E st h => wpAny_pyIter_keyiter st h
def iNd (w : World) (td : TE) : TI := fun σ H R => td σ H fun x H1 => ∃ d o xs, x = .ref d ∧ (d == sysModules) = false ∧ H1 d = some (.frz o (NdO w d xs)) ∧ R (Itn w d o xs) H1
theorem pi_nd {X : Cx} {tg e : Expr} {td : TE} (he : PE X e td) : PI X tg e (iNd X.w td) := by
  refine ⟨fun pins s σ H R I h => ?_⟩
  refine thn (he.run pins s σ H _ I h) fun u s1 ⟨x, H1, I1, rx, d, o, xs, ex, hs, hd, q⟩ => ?_
  subst ex
  obtain rfl : u = Value.ref d := rx
  obtain ⟨hgd, hx, es, ep, hdt, hsz, ent⟩ := frzN I1 hd
  refine iter_keys hs hgd hx hdt (pi_one (tk := s1.toks) I1 _ (turn_nd _ hdt) ⟨_, Heap.get?_push_size _ rfl, rfl, ?_⟩ q)
  rw [hsz] <;> rfl
/-! ### the slot goes to the base while the loop runs -/
abbrev BS.up (B : BS) (h : Hp) : BS := ⟨h, B.g, B.xa, B.rm, B.w, B.bi⟩
section
variable {C : KM} {B : BS} {σ : L2.St} {H G : Hp} {ρ : Ev'} {j : Nat} {ks ws : List T} {d : Addr}
theorem SR.letGo (s : SR C B σ H ρ G) (e : ρ[j]? = some (.dp (.dt ks ws))) (ev : σ[j]? = some (some (.ref d))) (u : HO) : SR C (B.up (upd B.h d u)) σ (upd H d u) (ρ.set j .un) G := by
  obtain ⟨Fp, h1, h2, h3, h4⟩ := s.dp
  obtain ⟨v, q1, q2, q3, q4⟩ := h1 j _ e
  rw [ev] at q1
  cases q1
  have md : d ∈ Fp j := by
    obtain ⟨d', xs, vs, e1, n, eF⟩ := dt_open q2
    cases e1
    rw [eF]
    exact List.mem_singleton.mpr rfl
  have hG : G d = none := (q4 d md).2
  have hB : B.h d = none := (q4 d md).1
  have old : ∀ {k : Nat} {x : Sl}, x ≠ .un → (ρ.set j .un)[k]? = some x → k ≠ j ∧ ρ[k]? = some x := fun {k x} hx z => by
    rcases set_get z with ⟨_, w⟩ | w
    · exact (hx w).elim
    · exact w
  refine ⟨⟨Ex.upd2 s.gr.eh, s.gr.eg, Ex.mut s.gr.gh hG, fun a o g z => ?_⟩, fun k t z => ?_, fun k t z => ?_, fun k l t t' a n z1 z2 z3 z4 => ?_, by rw [List.length_set]; exact s.len, fun k y p z => ?_, ?_⟩
  · by_cases ad : a = d
    · rw [ad]; exact hG
    · have z : upd B.h d u a = some o := z
      rw [upd_ne ad] at z
      exact s.gr.sep a o g z
  · exact s.sh k t (old (fun z => by cases z) z).2
  · obtain ⟨n, z⟩ := old (fun z => by cases z) z
    obtain ⟨a, o, k1, k2, k3, k4, k5⟩ := s.ow k t z
    have ad : a ≠ d := fun q => h3 j k _ t a e z k1 (by rw [q]; exact md)
    exact ⟨a, o, k1, by show upd B.h d u a = none; rw [upd_ne ad]; exact k2, by rw [upd_ne ad]; exact k3, k4, k5⟩
  · exact s.ds k l t t' a n (old (fun z => by cases z) z1).2 (old (fun z => by cases z) z2).2 z3 z4
  · obtain ⟨a, cls, dd, k1, k2, k3⟩ := s.xn k y p (old (fun z => by cases z) z).2
    exact ⟨a, cls, dd, k1, k2, k3⟩
  · refine ⟨Fp, fun k c z => ?_, fun k l c1 c2 x n z1 z2 => h2 k l c1 c2 x n (old (fun z => by cases z) z1).2 (old (fun z => by cases z) z2).2, fun k l c t a z1 z2 => h3 k l c t a (old (fun z => by cases z) z1).2 (old (fun z => by cases z) z2).2, fun p mp c z => h4 p mp c (old (fun z => by cases z) z).2⟩
    obtain ⟨n, z⟩ := old (fun z => by cases z) z
    obtain ⟨v, k1, k2, k3, k4⟩ := h1 k c z
    have out : ∀ x ∈ Fp k, x ≠ d := fun x m q => h2 k j c _ x n z e m (by rw [q]; exact md)
    refine ⟨v, k1, k2.mono (Ex.refl _) _ _ _ (fun x m o zo => by rw [upd_ne (out x m)]; exact zo), k3, fun x m => ⟨?_, (k4 x m).2⟩⟩
    show upd B.h d u x = none
    rw [upd_ne (out x m)]
    exact (k4 x m).1
theorem gr_down {h : Hp} {H' G' : Hp} (sub : ∀ x o, B.h x = some o → h x = some o) (g : Gr h B.g H' G') : Gr B.h B.g H' G' := ⟨fun x o z => g.eh x o (sub x o z), g.eg, g.gh, fun a o q z => g.sep a o q (sub a o z)⟩
theorem none_down {h : Hp} (sub : ∀ x o, B.h x = some o → h x = some o) {x : Addr} (z : h x = none) : B.h x = none := by
  cases q : B.h x with
  | none => rfl
  | some o => rw [sub x o q] at z; cases z
theorem SR.down {h : Hp} (sub : ∀ x o, B.h x = some o → h x = some o) (s : SR C (B.up h) σ H ρ G) : SR C B σ H ρ G := by
  obtain ⟨Fp, h1, h2, h3, h4⟩ := s.dp
  refine ⟨gr_down sub s.gr, s.sh, fun k t z => ?_, s.ds, s.len, s.xn, Fp, fun k c z => ?_, h2, h3, h4⟩
  · obtain ⟨a, o, k1, k2, k3⟩ := s.ow k t z
    exact ⟨a, o, k1, none_down sub k2, k3⟩
  · obtain ⟨v, k1, k2, k3, k4⟩ := h1 k c z
    exact ⟨v, k1, k2, k3, fun x m => ⟨none_down sub (k4 x m).1, (k4 x m).2⟩⟩
theorem PostS.down {W : WX} {D : Ends} {o : Out} {h : Hp} (sub : ∀ x o, B.h x = some o → h x = some o) (p : PostS C B W D G o) : PostS C (B.up h) W D G o := by
  cases o with
  | nx ρ => exact fun σ' H' G' s k => p σ' H' G' (s.down sub) k
  | bk ρ => exact fun σ' H' G' s k => p σ' H' G' (s.down sub) k
  | ct ρ => exact fun σ' H' G' s k => p σ' H' G' (s.down sub) k
  | rt t =>
    intro v H' G' g i
    refine p v H' G' (gr_down sub g) ?_
    obtain ⟨bh, bg, bx, br, bw, bb⟩ := B
    cases br with
    | E => exact i
    | N =>
      obtain ⟨a, o, k1, k2, k3⟩ := i
      exact ⟨a, o, k1, none_down (B := ⟨bh, bg, bx, .N, bw, bb⟩) sub k2, k3⟩
    | D =>
      obtain ⟨d, F, k1, k2, k3, k4⟩ := i
      exact ⟨d, F, k1, k2, k3, fun x m => ⟨none_down (B := ⟨bh, bg, bx, .D, bw, bb⟩) sub (k4 x m).1, (k4 x m).2⟩⟩
    | B a =>
      obtain ⟨u, d, F, k1, k2, k3, k4, k5, k6⟩ := i
      exact ⟨u, d, F, k1, k2, k3, k4, k5, fun x m => ⟨none_down (B := ⟨bh, bg, bx, .B a, bw, bb⟩) sub (k6 x m).1, (k6 x m).2⟩⟩
  | ex x p' ρ => exact fun cls d σ' H' G' s k => p cls d σ' H' G' (s.down sub) k
  | bad => exact p
end
def noRt (o : Out) : Out := match o with
  | .rt _ => .bad
  | o => o
def sForD (j : Nat) (g : Tg) (body : FS) : FS := fun ρ => match ρ[j]? with
  | some (.dp (.dt ks _)) => noRt (loopF g body ks (ρ.set j .un))
  | _ => .bad
theorem st_forD {X : Cx} {B : BS} {W : WX} {tg : Expr} {x : Str} {p pos : Pos} {body : List Stmt} {g : Tg} {f : FS} (j : Nat) (hp : PassesOwn (model X.prog X.w) X.A X.env X.xe) (hc : X.calm = true) (hg : DG X tg g) (hb : ∀ h, DSs X (B.up h) W body f)
    (hN : X.N[j]? = some x := by rfl) (hv : Vis X.env.scope x := by first | exact Or.inl rfl | exact Or.inr (Or.inl rfl) | exact Or.inr (Or.inr rfl)) (hd : (x == ("__debug__" : Str)) = false := by decide) (hcd : (x == ("__classdict__" : Str)) = false := by decide) (hw : B.w = X.w := by rfl)
    (hs : ∀ y, foldedSetIterable (.Name x p) X.env y = pure y := by intro _; rfl) : DS X B W (.For tg (.Name x p) body [] pos) (sForD j g f) := by
  have hb' : PSs X body (fun D σ H => ∃ h, tS (km X) (B.up h) W f D σ H) := ⟨fun pins s σ H D I ⟨h, q⟩ => (hb h).run pins s σ H D I q⟩
  refine PS.imp (ps_lock (ps_for hp hc (pi_nd (pe_var hN hv hd hcd)) hg hb' hs)) fun D σ H ⟨ρ, G, s, p⟩ => ?_
  unfold sForD at p
  split at p
  rotate_left
  · exact p.elim
  rename_i ks ws e0
  obtain ⟨v, F, q1, q2, q3, q4⟩ := s.dpAt e0
  obtain ⟨a, xs, vs, rfl, n, rfl⟩ := dt_open q2
  rw [hw] at n
  refine ⟨a, NdO X.w a xs, n.at_, trivial, fun od => ⟨.ref a, q1, a, od, xs, rfl, n.ms, upd_same, ?_⟩⟩
  have hBa : B.h a = none := (q4 a (List.mem_singleton.mpr rfl)).1
  have hGa : G a = none := (q4 a (List.mem_singleton.mpr rfl)).2
  have sub : ∀ x o, B.h x = some o → upd B.h a (.frz od (NdO X.w a xs)) x = some o := fun x o z => by
    rw [upd_ne (fun q => by rw [q, hBa] at z; cases z)]
    exact z
  have s0 := s.letGo e0 q1 (.frz od (NdO X.w a xs))
  -- what is locked stays; it may be let go of
  have stays : ∀ {σ' : L2.St} {H' G' : Hp} {ρ' : Ev'}, SR (km X) (B.up (upd B.h a (.frz od (NdO X.w a xs)))) σ' H' ρ' G' → H' a = some (.frz od (NdO X.w a xs)) := fun s' => s'.gr.eh _ _ upd_same
  have loose : ∀ {σ' : L2.St} {H' G' : Hp} {ρ' : Ev'}, SR (km X) (B.up (upd B.h a (.frz od (NdO X.w a xs)))) σ' H' ρ' G' → SR (km X) B σ' (upd H' a (NdO X.w a xs)) ρ' G' := fun {σ' H' G' ρ'} s' => by
    have gn : G' a = none := s'.gr.sep a _ (by
      cases z : B.g a with
      | none => rfl
      | some o => rw [s.gr.eg _ _ z] at hGa; cases hGa) upd_same
    refine (s'.down sub).beside hBa gn (fun k t z q => ?_) (fun k c v F z zv zd m => ?_)
    · obtain ⟨b, o, k1, k2, _⟩ := s'.ow k t z
      rw [q] at k1
      cases k1
      have k2 : upd B.h a (.frz od (NdO X.w a xs)) a = none := k2
      rw [upd_same] at k2
      cases k2
    · obtain ⟨v', F', k1, k2, k3, k4⟩ := s'.dpAt z
      rw [zv] at k1
      cases k1
      have eF := k2.det (Ex.refl _) _ _ _ _ (fun x _ o z => z) zd
      have k5 : upd B.h a (.frz od (NdO X.w a xs)) a = none := (k4 a (by rw [eF]; exact m)).1
      rw [upd_same] at k5
      cases k5
  -- the ends, seen from inside
  have inside : ∀ {o : Out}, PostS (km X) B W D G (noRt o) → PostS (km X) (B.up (upd B.h a (.frz od (NdO X.w a xs)))) W ⟨fun σ' H' => H' a = some (.frz od (NdO X.w a xs)) ∧ D.nx σ' (upd H' a (NdO X.w a xs)), fun v H' => H' a = some (.frz od (NdO X.w a xs)) ∧ D.rt v (upd H' a (NdO X.w a xs)), fun σ' H' => H' a = some (.frz od (NdO X.w a xs)) ∧ D.bk σ' (upd H' a (NdO X.w a xs)), fun σ' H' => H' a = some (.frz od (NdO X.w a xs)) ∧ D.ct σ' (upd H' a (NdO X.w a xs))⟩ G o := fun {o} q => by
    cases o with
    | nx ρ' => exact fun σ' H' G' s' k => ⟨stays s', q σ' _ G' (loose s') k⟩
    | bk ρ' => exact fun σ' H' G' s' k => ⟨stays s', q σ' _ G' (loose s') k⟩
    | ct ρ' => exact fun σ' H' G' s' k => ⟨stays s', q σ' _ G' (loose s') k⟩
    | rt t => exact q.elim
    | ex y q' ρ' => exact fun cls dd σ' H' G' s' k xa => q cls dd σ' H' G' (s'.down sub) k xa
    | bad => exact q
  have p0 := inside p
  have hl : ks.length = xs.length := Paired.len n.ka
  have ik := n.ik
  clear inside p
  generalize (⟨fun σ' H' => H' a = some (.frz od (NdO X.w a xs)) ∧ D.nx σ' (upd H' a (NdO X.w a xs)), fun v H' => H' a = some (.frz od (NdO X.w a xs)) ∧ D.rt v (upd H' a (NdO X.w a xs)), fun σ' H' => H' a = some (.frz od (NdO X.w a xs)) ∧ D.bk σ' (upd H' a (NdO X.w a xs)), fun σ' H' => H' a = some (.frz od (NdO X.w a xs)) ∧ D.ct σ' (upd H' a (NdO X.w a xs))⟩ : Ends) = D' at p0 ⊢
  refine ⟨fun i m σ' H' => m = ks.length - i ∧ i ≤ ks.length ∧ ∃ ρ' G', SR (km X) (B.up (upd B.h a (.frz od (NdO X.w a xs)))) σ' H' ρ' G' ∧ Ex G G' ∧ PostS (km X) (B.up (upd B.h a (.frz od (NdO X.w a xs)))) W D' G' (loopF g f (ks.drop i) ρ'), ⟨_, rfl, Nat.zero_le _, _, G, s0, Ex.refl _, p0⟩, ?_⟩
  rintro i m σ' H' ⟨rfl, hi, ρ', G', s', e', p'⟩
  by_cases hlt : i < ks.length
  · have hdr : ks.drop i = ks[i] :: ks.drop (i + 1) := List.drop_eq_getElem_cons hlt
    rw [hdr] at p'
    refine .inr ⟨⟨stays s', by omega⟩, fun σ2 H2 => i + 1 ≤ ks.length ∧ ∃ ρ2 G2, SR (km X) (B.up (upd B.h a (.frz od (NdO X.w a xs)))) σ2 H2 ρ2 G2 ∧ Ex G G2 ∧ PostS (km X) (B.up (upd B.h a (.frz od (NdO X.w a xs)))) W D' G2 (loopF g f (ks.drop (i + 1)) ρ2), fun σ2 H2 ⟨h1, h2⟩ => ⟨ks.length - (i + 1), by omega, rfl, h1, h2⟩, fun x H2 y => ?_⟩
    obtain ⟨rfl, y0, hy, rfl⟩ := y
    have ix : Is (km X) G' ks[i] (.ref y0.2.1) := by
      obtain ⟨v, hv', iv⟩ := ik.get (List.getElem?_eq_getElem hlt)
      rw [List.getElem?_map, hy] at hv'
      cases hv'
      exact Is.mono e' _ _ iv
    have p2 := p'
    unfold loopF at p2
    cases et : setT g ks[i] ρ' with
    | none =>
      rw [et] at p2
      exact p2.elim
    | some ρ1 =>
      rw [et] at p2
      refine tg_of (C := km X) s' ix et fun σ3 s3 => ⟨upd B.h a (.frz od (NdO X.w a xs)), ρ1, G', s3, ?_⟩
      cases eb : f ρ1 with
      | nx ρ4 =>
        simp only [eb] at p2
        exact fun σ4 H4 G4 s4 k4 => ⟨hlt, ρ4, G4, s4, e'.trans k4, PostS.mono k4 p2⟩
      | ct ρ4 =>
        simp only [eb] at p2
        exact fun σ4 H4 G4 s4 k4 => ⟨hlt, ρ4, G4, s4, e'.trans k4, PostS.mono k4 p2⟩
      | bk ρ4 =>
        simp only [eb] at p2
        exact p2
      | rt t =>
        simp only [eb] at p2
        exact p2
      | ex x q r =>
        simp only [eb] at p2
        exact p2
      | bad =>
        simp only [eb] at p2
        exact p2.elim
  · have e : i = ks.length := by omega
    subst e
    rw [List.drop_length] at p'
    exact .inl ⟨⟨stays s', by omega⟩, p' σ' H' G' s' (Ex.refl _)⟩
end VS

/-! list(d), d a dict of one's own with nested keys -/
namespace VS
open PySem PySem.Spec PyProof.Rows L2 Evl
theorem vals_of : ∀ (vs : List V) (us : List Value), vs.length = us.length → (∀ (i : Nat) (v : V) (u : Value), vs[i]? = some v → us[i]? = some u → RelV v u) → L2.Vals vs us
  | [], [], _, _ => .nil
  | v :: vs, u :: us, h, k => .cons (k 0 v u rfl rfl) (vals_of vs us (Nat.succ.inj h) fun i v u h1 h2 => k (i + 1) v u h1 h2)
def rNdList (X : Cx) : List V → Hp → VK → Prop := fun us H Q => ∃ d ks ws xs vs G, us = [.ref d] ∧ Ex G H ∧ NdI (km X) X.w H G d ks ws xs vs ∧ ∀ p, H p = none → Q (.ref p) (upd H p (.lst (xs.map fun x => .ref x.2.1)))
theorem c_ndList {X : Cx} (hc : X.calm = true) : CallR X (.type "list") (rNdList X) := by
  intro pins s σ H ys us Q I r h
  obtain ⟨d, ks, ws, xs, vs, G, rfl, ex, n, q⟩ := h
  cases r with
  | cons r rr =>
    cases rr
    cases r
    have dd := dt_h I ex n.at_ n.ka n.ik
    obtain ⟨es, ep, hr, hz, he⟩ := dd.raw
    refine PySem.W.kdl_call (PySem.KdlSrc.rawDict n.ms) (I.ok.hd hc) hr (by rw [hz]; exact n.sz) fun h' tk acc c hk hS hacc => ?_
    refine ⟨.ref s.heap.objs.size, upd H s.heap.objs.size (.lst (xs.map fun x => .ref x.2.1)), ?_, rfl, q _ (I.hok.fresh (Nat.le_refl _))⟩
    refine I.laid (t' := tk) (fun b u e => hk b u e) (Nat.le_refl _) ⟨by rw [List.length_map]; exact n.sz, acc.toList, c, vals_of _ _ (by have h0 := hacc.1; rw [hz] at h0; rw [List.length_map]; simpa using h0.symm) fun i v u h1 h2 => ?_, by rw [Array.toArray_toList]; exact hS⟩
    rw [Array.getElem?_toList] at h2
    obtain ⟨hi, eu⟩ := hacc.2 i u h2
    obtain ⟨y, hy, ek, _⟩ := he i hi
    rw [List.getElem?_map, hy] at h1
    cases h1
    rw [eu, ek]
    rfl
def eDtKeys (i : Nat) : FE := fun ρ => match ρ[i]? with | some (.dp (.dt ks _)) => .ok (.lst ks) | _ => .bad
theorem d_ndList {X : Cx} {B : BS} {W : WX} {i : Nat} {x : Str} {p p2 pos : Pos} (hc : X.calm = true) (hg : Gl X "list") (hm : X.mg "list" = none) (hN : X.N[i]? = some x) (hv : Vis X.env.scope x) (hd : (x == ("__debug__" : Str)) = false := by decide) (hcd : (x == ("__classdict__" : Str)) = false := by decide) (hw : B.w = X.w := by rfl)
    (hb : bootBuiltins "list" = some (.type "list") := by decide +kernel) (he : starEach [.Name x p2] X.env = (false, eval (.Name x p2) X.env) :: starEach [] X.env := by rfl) : DE X B W .N (.Call (.Name "list" p) [.Name x p2] [] pos) (eDtKeys i) :=
  PE.imp (pe_callTy (c_ndList hc) hg hm hb (pa_cons (pe_var hN hv hd hcd) pa_nil he) (by decide) (by decide) he rfl) fun σ H Q ⟨ρ, G, s, q⟩ => by
    unfold eDtKeys at q
    split at q
    · rename_i ks ws e
      obtain ⟨v', F, q1, q2, _, _⟩ := s.dpAt e
      obtain ⟨d, xs, vs, rfl, n, _⟩ := dt_open q2
      rw [hw] at n
      exact ⟨.ref d, q1, d, ks, ws, xs, vs, G, rfl, s.exGH, n, fun p hp => q _ _ G (Gr.own s.exGH hp) ⟨p, _, rfl, hp, upd_same, ex_none s.exGH hp, _, rfl, n.ik⟩⟩
    · exact q.elim
end VS

/-! x in d.values(): asked of the iterator, one by one -/
namespace VS
open PySem PySem.Spec PyProof.Rows L2 Evl
theorem plain_ci : plainId "proto.contains_iter" = true := by decide +kernel
theorem entry_ci : entryFor table "proto.contains_iter" = some Builtin.«proto.contains_iter» := entryFor_of_fast (by kernel_rfl)
theorem vals_no_contains : typeLookup (.type "dict_values") "__contains__" = pure none := by rw [typeLookup_type, builtinLookup_eq_fast]; kernel_rfl
section
variable {prog : Program} {w : World} {A : Around} {R : Result → Shared → Prop} {I : Addr} {fp wr : List Addr} {n : Nat} {P : Nat → Value → Prop} {St : Nat → Heap → Prop}
theorem ci_loop (W : Walks prog w A.in1 I fp wr n P St) (x : Value) (b : Nat → Bool) (hb : ∀ i v s, P i v → SeqAt.EqAt A.in1 s v x (b i)) : ∀ (k i : Nat) (s : Shared), n - i = k → i ≤ n → St i s.heap →
    (∀ h' tk, (∀ a o, a ∉ wr → s.heap.get? a = some o → h'.get? a = some o) → R (.ok (.ret (.bool ((List.range' i (n - i)).any b)))) { s with heap := h', toks := tk }) →
    codeAny (model prog w) A (.builtin "proto.contains_iter" ⟨[.ref I, x], []⟩) R s := by
  intro k
  induction k with
  | zero =>
    intro i s hk hi hst hR
    have hin : i = n := by omega
    subst hin
    refine codeAny_builtin entry_ci ?_
    rw [Around.under_plainId plain_ci _]
    show wpAny _ A.in1 (pyNext (.ref I) >>= _) _ _ s
    refine wpAny_bind (W.done s _ _ hst fun h' tk hm => ?_)
    have hR' := hR h' tk hm
    rw [Nat.sub_self] at hR'
    exact wpAny_bind (wpAny_rule (wpAny_pure hR'))
  | succ k ih =>
    intro i s hk hi hst hR
    have hlt : i < n := by omega
    refine codeAny_builtin entry_ci ?_
    rw [Around.under_plainId plain_ci _]
    show wpAny _ A.in1 (pyNext (.ref I) >>= _) _ _ s
    refine wpAny_bind (W.item i s _ _ hlt hst fun v h' tk hP hst' hm => ?_)
    show wpAny _ A.in1 (eqBool v x >>= _) _ _ _
    have er : List.range' i (n - i) = i :: List.range' (i + 1) (n - (i + 1)) := by
      have : n - i = (n - (i + 1)) + 1 := by omega
      rw [this, List.range'_succ]
    refine wpAny_bind (hb i v _ hP _ _ _ _ ?_)
    cases q : b i with
    | true =>
      have hR' := hR h' tk hm
      rw [er, List.any_cons, q] at hR'
      exact wpAny_bind (wpAny_rule (wpAny_pure hR'))
    | false =>
      refine wpAny_pure ⟨plainId_quiet plain_ci _, ih (i + 1) _ (by omega) hlt hst' fun h2 tk2 hm2 => ?_⟩
      have hR' := hR h2 tk2 fun a o ha e => hm2 a o ha (hm a o ha e)
      rw [er, List.any_cons, q] at hR'
      exact hR'
end
section
variable {prog : Program} {w : World} {A : Around} {E : Value → Shared → Prop} {s : Shared}
theorem in_vals {v d : Addr} {es : Array DictEntry} {ep : Nat} {x : Value} {b : Nat → Bool} {Q : Bool → Shared → Prop} (hh : A.handled = none) (hv : s.heap.IsValuesView v d) (hm : s.heap.DictRaw d es ep)
    (hb : ∀ (i : Nat) (hi : i < es.size) (s : Shared), SeqAt.EqAt A.in1 s es[i].val x (b i)) (h : ∀ h' tk, (∀ a o, s.heap.get? a = some o → h'.get? a = some o) → Q ((List.range es.size).any b) { s with heap := h', toks := tk }) :
    wpAny (model prog w) A (contains (.ref v) x) Q E s := by
  unfold contains
  refine wpAny_holding ?_
  rw [stdlibNamesSay?_of_typeIs hv.typeIs]
  refine wpAny_bind (wpAny_specialOf hv.typeIs vals_no_contains ?_)
  rw [if_neg (by decide)]
  refine wpAny_bind ?_
  unfold callSpecialUnlessNone?
  refine wpAny_bind (wpAny_specialOf hv.typeIs vals_no_contains ?_)
  refine wpAny_pure ?_
  refine wpAny_bind (wpAny_rule ?_)
  refine wpAny_bind (wpAny_tryCatch (wpAny_pyIter_values_raw hv hm ?_))
  have hlt : d < s.heap.objs.size := hm.lt_size
  refine wpAny_bind (wpAny_runValue (ci_loop (Walks.rawValues (A := A.in1) hh s.heap.objs.size d (Nat.ne_of_lt hlt) es ep) x b (fun i v s ⟨hi, e⟩ => by rw [e]; exact hb i hi s) es.size 0 _ rfl (Nat.zero_le _) ⟨⟨_, Heap.get?_push_size _ rfl, rfl, rfl⟩, hm.push _⟩ fun h' tk hk => ?_))
  refine wpAny_pure ?_
  rw [Nat.sub_zero, ← List.range_eq_range']
  refine h h' tk fun a o e => hk a o (fun z => ?_) (Heap.get?_push_of_some _ e)
  rw [List.mem_singleton.mp z] at e
  exact absurd (Heap.lt_size e) (Nat.lt_irrefl _)
end
/-! ### k not in d.values(), d a dict of one's own whose values are texts -/
def VwO (p d : Addr) : HO := .ext fun h => h.IsValuesView p d
section
variable {X : Cx} {B : BS} {W : WX} {a : Expr} {fa : FE} {x : Str} {i : Nat} {pn apos cpos pos : Pos}
def tNdVals (w : World) (j : Nat) : TE := fun σ H Q => ∃ d o xs, σ[j]? = some (some (.ref d)) ∧ (d == sysModules) = false ∧ H d = some (NdO w d xs) ∧ o = d ∧ ∀ p, H p = none → Q (.ref p) (upd H p (VwO p d))
theorem pe_ndVals {j : Nat} (hN : X.N[j]? = some x) (hv : Vis X.env.scope x) (hd : (x == ("__debug__" : Str)) = false := by decide) (hcd : (x == ("__classdict__" : Str)) = false := by decide)
    (hbase : attributeBase (.Name x pn) "values" X.env (eval (.Name x pn) X.env) = eval (.Name x pn) X.env := by rfl) (hline : (apos.endLine == cpos.line) = true := by rfl) : PE X (.Call (.Attribute (.Name x pn) "values" apos) [] [] cpos) (tNdVals X.w j) := by
  refine ⟨fun pins s σ H Q I h => ?_⟩
  obtain ⟨d, o, xs, e, hs, hd2, _, q⟩ := h
  refine wpAny_Call_method (T := "dict") (id := "dict.values") hbase rfl hline F.plainAttrs_dict F.slot_dict_values F.type_dict_values (thn ((pe_var hN hv hd hcd).run pins s σ H (fun v H' => v = .ref d ∧ H' = H) I ⟨.ref d, e, rfl, rfl⟩) fun u s1 ⟨v, H1, I1, rx, ev, eH⟩ => ?_)
  subst ev
  subst eH
  obtain rfl : u = Value.ref d := rx
  obtain ⟨⟨o1, es, ep, g1, g2, g3, g4, g5⟩, _⟩ := (show ObjOk X.prog X.w H1 s1.heap d (NdO X.w d xs) from I1.hok d _ hd2)
  have raw : s1.heap.DictRaw d es ep := ⟨o1, g1, g2, g3⟩
  refine ⟨raw.typeIs, fun b eb => ?_, ?_⟩
  · cases eb
    exact ⟨o1, g1, g2.2.1⟩
  · show wpAny _ _ (callWith cpos (.builtin "dict.values") [.ref d] [] []) _ X.xe s1
    refine method_meetsIn F.slot_dict_values F.entry_dict_values rfl (PySem.evalArgs_none ⟨rfl, raw.typeIs, F.args_dict_values_1 _, _, meets_dict_values_raw d hs, ⟨es, ep, raw⟩, ?_⟩)
    refine ⟨.ref s1.heap.objs.size, _, I1.laid (a := s1.heap.objs.size) (o := VwO s1.heap.objs.size d) (t' := s1.toks) (fun _ _ q => Heap.get?_push_of_some _ q) (Nat.le_refl _) ⟨⟨_, Heap.get?_push_size _ rfl, rfl, rfl⟩, ⟨_, Heap.get?_push_size _ rfl⟩, fun h1 h2 ⟨o', k1, k2⟩ k => ⟨o', k _ k1, k2⟩⟩, rfl, q _ (I1.hok.fresh (Nat.le_refl _))⟩
theorem range_any {α : Type} (f : α → Bool) (l : List α) : ((List.range l.length).any fun i => ((l[i]?).map f).getD false) = l.any f := by
  rw [Bool.eq_iff_iff, List.any_eq_true, List.any_eq_true]
  constructor
  · rintro ⟨i, hi, h⟩
    cases q : l[i]? with
    | none => rw [q] at h; cases h
    | some y =>
      rw [q] at h
      exact ⟨y, List.mem_of_getElem? q, h⟩
  · rintro ⟨y, hy, h⟩
    obtain ⟨i, hi, e⟩ := List.mem_iff_getElem.mp hy
    refine ⟨i, List.mem_range.mpr hi, ?_⟩
    rw [List.getElem?_eq_getElem hi, e]
    exact h
def rNdVn (X : Cx) : R2 := fun y z H Q => ∃ (p d : Addr) (xs : List (NestedKey × Addr × Value)) (l : List Str) (yy : Str) (ks ws : List T) (vs : List V) (G : Hp), y = .str yy ∧ z = .ref p ∧ H p = some (VwO p d) ∧ Ex G H ∧ NdI (km X) X.w H G d ks ws xs vs ∧ vs = l.map V.str ∧ Q (.bl (!(l.any fun z => z == yy))) H
theorem op_ndVn (hc : X.calm = true) : OpR X (compareOp .NotIn) (rNdVn X) := by
  intro pins s σ H y z v u Q I ry rz h
  obtain ⟨p, d, xs, l, yy, ks, ws, vs, G, rfl, rfl, hp, ex, n, rfl, q⟩ := h
  cases (show u = Value.ref p from rz)
  obtain ⟨t, rfl⟩ := (show ∃ t, v = Value.str yy t from ry)
  have vw : s.heap.IsValuesView p d := (show ObjOk X.prog X.w H s.heap p (VwO p d) from I.hok p _ hp).1
  obtain ⟨es, ep, hr, hz, he⟩ := (dt_h I ex n.at_ n.ka n.ik).raw
  have hl : l.length = xs.length := by
    have := Paired.len n.rv
    rw [List.length_map, List.length_map] at this
    exact this
  refine (show wpAny (model X.prog X.w) X.A (do return Value.bool (!(← contains (.ref p) (.str yy t)))) (EP X pins σ Q) X.xe s from wpAny_bind (in_vals (b := fun i => ((l[i]?).map fun z => z == yy).getD false) (I.ok.hd hc) vw hr (fun i hi s' => ?_) fun h' tk hk => wpAny_pure ?_))
  · obtain ⟨y, hy, _, ev, _⟩ := he i hi
    obtain ⟨u, hu, ru⟩ := n.rv.get (i := i) (x := .str l[i]) (by
      have hil : i < l.length := by omega
      rw [List.getElem?_map, List.getElem?_eq_getElem hil]
      rfl)
    have hil : i < l.length := by omega
    rw [List.getElem?_map, hy] at hu
    cases hu
    obtain ⟨t', e'⟩ := (show ∃ t', y.2.2 = Value.str l[i] t' from ru)
    rw [ev, e', List.getElem?_eq_getElem hil]
    exact SeqAt.EqAt.str_str _ _ _ _
  · rw [hz, ← hl, range_any]
    exact ⟨.bl (!(l.any fun z => z == yy)), H, I.kept (t' := tk) hk, rfl, q⟩
def eVnin (i : Nat) (fa : FE) : FE := fun ρ => (fa ρ).bind fun k => match k, ρ[i]? with
  | .str y, some (.dp (.dt _ ws)) => (match strs? ws with | some l => .ok (.bl (!(l.any fun z => z == y))) | none => .bad)
  | _, _ => .bad
theorem strs_is {C : KM} {G : Hp} : ∀ {ws : List T} {l : List Str} {vs : List V}, strs? ws = some l → IsL C G ws vs → vs = l.map V.str
  | [], l, vs, e, h => by cases e; unfold IsL at h; exact h
  | w :: ws, l, vs, e, h => by
    unfold IsL at h
    obtain ⟨v, r, rfl, h2, h3⟩ := h
    cases w with
    | str y =>
      have e' : (strs? ws).map (y :: ·) = some l := e
      cases q : strs? ws with
      | none => rw [q] at e'; cases e'
      | some l' =>
        rw [q] at e'
        cases e'
        unfold Is at h2
        rw [strs_is q h3, h2]
        rfl
    | _ => cases e
theorem vn_of {σ : L2.St} {H G : Hp} {ρ : Ev'} {Q : VK} (s : SR (km X) B σ H ρ G) (hw : B.w = X.w) (q : Post (km X) .E W σ H G (eVnin i fa ρ) Q) : tOp (rNdVn X) (tM (km X) B .E W fa) (tNdVals X.w i) σ H Q :=
  bindE s q fun kt v H1 G1 g s1 ik p1 => by
    split at p1
    · rename_i yy ks ws e
      split at p1
      · rename_i l el
        obtain ⟨v', F, q1, q2, _, _⟩ := s1.dpAt e
        obtain ⟨d, xs, vs, rfl, n, _⟩ := dt_open q2
        rw [hw] at n
        unfold Is at ik
        subst ik
        refine ⟨d, d, xs, q1, n.ms, n.at_, rfl, fun p hp => ?_⟩
        have gn : G1 p = none := ex_none s1.exGH hp
        have pd : d ≠ p := fun z => by have := n.at_; rw [z, hp] at this; cases this
        exact ⟨p, d, xs, l, yy, ks, ws, vs, G1, rfl, rfl, upd_same, Ex.mut s1.exGH gn, ⟨n.ms, by rw [upd_ne pd]; exact n.at_, n.sz, n.ka, n.ik, n.rv, n.iv⟩, strs_is el n.iv, p1 _ _ G1 (Gr.own s1.exGH hp) (show VS.Is (km X) G1 (.bl _) _ from Is.blI)⟩
      · exact p1.elim
    · exact p1.elim
theorem d_ndVn (hc : X.calm = true) (ha : DE X B W .E a fa) (hN : X.N[i]? = some x) (hv : Vis X.env.scope x) (hd : (x == ("__debug__" : Str)) = false := by decide) (hcd : (x == ("__classdict__" : Str)) = false := by decide) (hw : B.w = X.w := by rfl)
    (hbase : attributeBase (.Name x pn) "values" X.env (eval (.Name x pn) X.env) = eval (.Name x pn) X.env := by rfl) (hline : (apos.endLine == cpos.line) = true := by rfl)
    (hm : behindInMarks .NotIn (.Call (.Attribute (.Name x pn) "values" apos) [] [] cpos) = false := by rfl) : DE X B W .E (.Compare a [.NotIn] [.Call (.Attribute (.Name x pn) "values" apos) [] [] cpos] pos) (eVnin i fa) :=
  PE.imp (pe_cmpR (op_ndVn hc) ha (pe_ndVals hN hv hd hcd hbase hline) hm) fun σ H Q ⟨ρ, G, s, q⟩ => vn_of s hw q
end
end VS

/-! xs.clear(); x in xs over nested data; xs[::-1] -/
namespace VS
open PySem PySem.Spec PyProof.Rows L2 Evl
/-! ### xs.clear(), xs one's own -/
def sClr (i : Nat) : FS := fun ρ => match ρ[i]? with
  | some (.ow (.lst _)) => .nx (ρ.set i (.ow (.lst [])))
  | _ => .bad
theorem st_clr {X : Cx} {B : BS} {W : WX} (i : Nat) {x : Str} {p1 p2 p3 pos : Pos} (hN : X.N[i]? = some x) (hv : Vis X.env.scope x)
    (h : PE X (.Call (.Attribute (.Name x p1) "clear" p2) [] [] p3) (tBM0 X.K "list" rClear (tVar i)))
    (hs : swapsWith (.Call (.Attribute (.Name x p1) "clear" p2) [] [] p3) none pos.line X.env = pure false := by rfl) : DS X B W (.Expr (.Call (.Attribute (.Name x p1) "clear" p2) [] [] p3) pos) (sClr i) :=
  PS.imp (ps_expr h hs) fun D σ H ⟨ρ, G, s, p⟩ => by
    unfold sClr at p
    split at p
    · rename_i l e
      obtain ⟨ad, o, h1, h2, h3, h4, vs, rfl, h5⟩ := s.ow i _ e
      exact ⟨.ref ad, h1, .inl ⟨rfl, vs, SqL.of h3⟩, ad, vs, rfl, rfl, h3, p σ _ G (s.write (o := .lst vs) e h1 h2 h4 ⟨_, rfl, IsL.nil⟩) (Ex.refl _)⟩
    · exact p.elim
/-! ### x in xs, both tuples that could be keys -/
def gInK (neg : Bool) (x y : T) : Option T :=
  match y with
  | .lst l => if (tk? x).isSome && l.all (fun z => (tk? z).isSome) then some (.bl (if neg then !(l.any fun z => tkEq z x) else l.any fun z => tkEq z x)) else none
  | _ => none
section
variable {X : Cx} {pins : List (Addr × Obj)} {σ : L2.St} {H : Hp} {s : Shared}
theorem nkey_of (I : Inv X pins σ H s) {t : T} {v : V} {u : Value} {k : NestedKey} (h : Is (km X) H t v) (r : RelV v u) (e : tk? t = some k) : NestedIs s.heap k u ∧ k.depth ≤ 8 := by
  obtain ⟨b, rfl, hb⟩ := key_is I (Ex.refl _) h e
  cases (show u = Value.ref b from r)
  exact hb
open Classical in
noncomputable def eK (s : Shared) (k : NestedKey) (y : Value) : Bool := if h : ∃ j, NestedIs s.heap j y then NestedKey.beq h.choose k else false
theorem eK_of {k j : NestedKey} {y : Value} (h : NestedIs s.heap j y) : eK s k y = NestedKey.beq j k := by
  have hh : ∃ j, NestedIs s.heap j y := ⟨j, h⟩
  unfold eK
  rw [dif_pos hh, NestedIs.inj _ _ _ hh.choose_spec h]
theorem beq_tkEq {z x : T} {j k : NestedKey} (e1 : tk? z = some j) (e2 : tk? x = some k) : NestedKey.beq j k = tkEq z x := by
  unfold tkEq
  rw [e1, e2, ← NestedKey.decide_eq]
  by_cases h : j = k
  · rw [decide_eq_true h, decide_eq_true (by rw [h])]
  · rw [decide_eq_false h, decide_eq_false (fun q => h (Option.some.inj q))]
theorem items_key (I : Inv X pins σ H s) {x : T} {k : NestedKey} (ex : tk? x = some k) : ∀ {l : List T} {vs : List V} {us : List Value}, l.all (fun z => (tk? z).isSome) = true → IsL (km X) H l vs → L2.Vals vs us →
    (∀ y ∈ us, ∃ j, NestedIs s.heap j y ∧ j.depth ≤ 8) ∧ us.any (eK s k) = l.any fun z => tkEq z x
  | [], vs, us, _, il, rv => by
    unfold IsL at il
    subst il
    cases rv
    exact ⟨fun y m => (nomatch m), rfl⟩
  | z :: l, vs, us, hl, il, rv => by
    unfold IsL at il
    obtain ⟨v, r, rfl, h2, h3⟩ := il
    rw [List.all_cons, Bool.and_eq_true] at hl
    cases rv with
    | cons r1 r2 =>
      obtain ⟨j, ej⟩ := Option.isSome_iff_exists.mp hl.1
      have hj := nkey_of I h2 r1 ej
      obtain ⟨k1, k2⟩ := items_key I ex hl.2 h3 r2
      refine ⟨fun y m => ?_, ?_⟩
      · rcases List.mem_cons.mp m with rfl | m
        · exact ⟨j, hj⟩
        · exact k1 y m
      · rw [List.any_cons, List.any_cons, k2, eK_of hj.1, beq_tkEq ej ex]
theorem o_inK (hu : X.A.units + 64 < cLine) : OpR X (compareOp .In) (rG (km X) .E (gInK false)) := by
  intro pins s σ H v u a b Q I ra rb h
  obtain ⟨x, y, G, t, ex, ix, iy, e, q⟩ := h
  cases y with
  | lst l =>
    unfold gInK at e
    simp only at e
    split at e
    · rename_i c
      have c' := Bool.and_eq_true_iff.mp c
      obtain rfl := Option.some.inj e
      obtain ⟨k, ek⟩ := Option.isSome_iff_exists.mp c'.1
      obtain ⟨p, vs, rfl, h1, h2⟩ := iy.lst ex
      cases rb
      obtain ⟨its, r, pl, hz⟩ := I.list (SqL.of h1)
      have hk := nkey_of I (ix.is ex) ra ek
      obtain ⟨k1, k2⟩ := items_key I ek c'.2 (IsL.mono ex _ _ h2) r
      refine SeqAt.in_listAt (eK s k) pl.isList (fun w hw => ?_) ⟨.bl _, H, I, rfl, ?_⟩
      · obtain ⟨j, hj, dj⟩ := k1 w (by simpa using hw)
        rw [eK_of hj]
        exact eqAt_key j k X.A.in1 s w a hj hk.1 (by show X.A.units + 1 + _ < _; have := hk.2; omega)
      · rw [show its.toArray.any (eK s k) = its.any (eK s k) by simp, k2]
        exact qE q ex Is.blI
    · cases e
  | _ => cases e
theorem o_ninK (hu : X.A.units + 64 < cLine) : OpR X (compareOp .NotIn) (rG (km X) .E (gInK true)) := by
  intro pins s σ H v u a b Q I ra rb h
  obtain ⟨x, y, G, t, ex, ix, iy, e, q⟩ := h
  cases y with
  | lst l =>
    unfold gInK at e
    simp only at e
    split at e
    · rename_i c
      have c' := Bool.and_eq_true_iff.mp c
      obtain rfl := Option.some.inj e
      obtain ⟨k, ek⟩ := Option.isSome_iff_exists.mp c'.1
      obtain ⟨p, vs, rfl, h1, h2⟩ := iy.lst ex
      cases rb
      obtain ⟨its, r, pl, hz⟩ := I.list (SqL.of h1)
      have hk := nkey_of I (ix.is ex) ra ek
      obtain ⟨k1, k2⟩ := items_key I ek c'.2 (IsL.mono ex _ _ h2) r
      refine SeqAt.notIn_listAt (eK s k) pl.isList (fun w hw => ?_) ⟨.bl _, H, I, rfl, ?_⟩
      · obtain ⟨j, hj, dj⟩ := k1 w (by simpa using hw)
        rw [eK_of hj]
        exact eqAt_key j k X.A.in1 s w a hj hk.1 (by show X.A.units + 1 + _ < _; have := hk.2; omega)
      · rw [show its.toArray.any (eK s k) = its.any (eK s k) by simp, k2]
        exact qE q ex Is.blI
    · cases e
  | _ => cases e
/-! ### xs[::-1] -/
def gRev : T → Option T
  | .lst l => some (.lst l.reverse)
  | _ => none
theorem IsL.rev {C : KM} {H : Hp} {l : List T} {vs : List V} (h : IsL C H l vs) : IsL C H l.reverse vs.reverse := by
  induction l generalizing vs with
  | nil => unfold IsL at h; subst h; exact IsL.nil
  | cons a l ih =>
    unfold IsL at h
    obtain ⟨v, r, rfl, h2, h3⟩ := h
    rw [List.reverse_cons, List.reverse_cons]
    exact (ih h3).app (IsL.one h2)
theorem d_rev {B : BS} {W : WX} {e : Expr} {fa : FE} {k : Nat} {p1 p2 p3 pos : Pos} (he : DE X B W .S e fa) : DE X B W .N (.Subscript e (.Slice none none (some (.UnaryOp .USub (.Constant (.int 1) k p1) p2)) p3) pos) (eU gRev fa) :=
  PE.imp (pe_revL he) fun σ H Q ⟨ρ, G, s, q⟩ => bindS s q fun x v H1 G1 g s1 i p1 => by
    obtain ⟨t, e, q1⟩ := p1.of
    cases x with
    | lst l =>
      obtain rfl := Option.some.inj e
      obtain ⟨a, vs, rfl, h1, h2⟩ := i.lst s1.exGH
      exact ⟨a, vs, rfl, SqL.of h1, fun p hp => q1 _ _ G1 (Gr.own s1.exGH hp) ⟨p, _, rfl, hp, upd_same, ex_none s1.exGH hp, _, rfl, IsL.rev h2⟩⟩
    | _ => cases e
end
end VS

/-! [e for x in xs for y in ys] -/
namespace VS
open PySem PySem.Spec PyProof.Rows L2 Evl
theorem setAll_old : ∀ {is : List Nat} {ts : List T} {ρ : Ev'} {k : Nat} {x : Sl}, (setAll ρ is ts)[k]? = some x → (∀ t, x ≠ .sh t) → ts.length = is.length → ρ[k]? = some x ∧ k ∉ is
  | [], ts, ρ, k, x, h, _, hl => by
    cases ts with
    | nil => exact ⟨h, fun z => nomatch z⟩
    | cons _ _ => cases hl
  | i :: is, [], ρ, k, x, h, hx, hl => by cases hl
  | i :: is, t :: ts, ρ, k, x, h, hx, hl => by
    obtain ⟨h1, h2⟩ := setAll_old (is := is) (ts := ts) (ρ := ρ.set i (.sh t)) h hx (Nat.succ.inj hl)
    rcases set_get h1 with ⟨_, z⟩ | ⟨n, z⟩
    · exact (hx _ z).elim
    · exact ⟨z, fun m => by
        rcases List.mem_cons.mp m with m | m
        · exact n m
        · exact h2 m⟩
theorem setT_old {g : Tg} {t : T} {ρ ρ1 : Ev'} {k : Nat} {x : Sl} (e : setT g t ρ = some ρ1) (h : ρ1[k]? = some x) (hx : ∀ t, x ≠ .sh t) : ρ[k]? = some x ∧ k ∉ tgs g := by
  cases g with
  | nm i =>
    cases e
    rcases set_get h with ⟨_, z⟩ | ⟨n, z⟩
    · exact (hx _ z).elim
    · exact ⟨z, fun m => n (List.mem_singleton.mp m)⟩
  | tp is =>
    cases t with
    | tup l =>
      have e' : (if l.length = is.length then some (setAll ρ is l) else none) = some ρ1 := e
      split at e'
      · rename_i hl
        cases e'
        exact setAll_old h hx hl
      · cases e'
    | _ => cases e
section
variable {C : KM} {B : BS} {σ : L2.St}
/-- the heap without D: nothing of the frame leans on it -/
theorem SR.unD {H G : Hp} {ρ : Ev'} {D : Addr} (s : SR C B σ H ρ G) (hB : B.1 D = none) (hG : G D = none) (no : ∀ (k : Nat) (t : T), ρ[k]? = some (.ow t) → σ[k]? ≠ some (some (.ref D)))
    (dp : ∀ (k : Nat) (e : VS.D) (v : V) (F : List Addr), ρ[k]? = some (.dp e) → σ[k]? = some (some v) → Dv C B.w H G e v F → D ∉ F) : SR C B σ (mask H [D]) ρ G := by
  have keep : ∀ {x : Addr} {o : HO}, x ≠ D → H x = some o → mask H [D] x = some o := fun {x o} n h => by
    rw [mask_out (fun m => n (List.mem_singleton.mp m))]
    exact h
  obtain ⟨Fp, h1, h2, h3, h4⟩ := s.dp
  refine ⟨⟨fun x o z => keep (fun q => by rw [q, hB] at z; cases z) (s.gr.eh x o z), s.gr.eg, fun x o z => keep (fun q => by rw [q, hG] at z; cases z) (s.gr.gh x o z), s.gr.sep⟩, s.sh, fun k t z => ?_, s.ds, s.len, s.xn, Fp, fun k c z => ?_, h2, h3, h4⟩
  · obtain ⟨a, o, k1, k2, k3, k4, k5⟩ := s.ow k t z
    exact ⟨a, o, k1, k2, keep (fun q => no k t z (by rw [k1, q])) k3, k4, k5⟩
  · obtain ⟨v, k1, k2, k3, k4⟩ := h1 k c z
    have nd := dp k c v _ z k1 k2
    exact ⟨v, k1, k2.mono (Ex.refl _) _ _ _ (fun x m o q => keep (fun w => nd (by rw [← w]; exact m)) q), k3, k4⟩
theorem upd_mask {H : Hp} {D : Addr} {o : HO} (h : H D = some o) : upd (mask H [D]) D o = H := by
  funext x
  by_cases e : x = D
  · rw [e, upd_same, h]
  · rw [upd_ne e, mask_out (fun m => e (List.mem_singleton.mp m))]
theorem comp_gen2 {H1 G1 : Hp} {ρ : Ev'} {J : It} {l : List T} {g : Tg} {fc fe : FE} {vs : List Nat} {D : Addr} {o0 : HO} {Qd : Hp → Prop} {STEP : L2.St → Hp → (Hp → Prop) → Prop} (A : Hp → List T → HO → Prop) (hA : ∀ G G' ts o, Ex G G' → A G ts o → A G' ts o)
    (hw : ∀ i ∈ tgs g, i ∈ vs) (wk : Wk C J G1 l) (s1 : SR C B σ H1 ρ G1) (hD : H1 D = none) (h0 : A G1 [] o0) {ts : List T} (ec : compF g fc fe l (wipeE ρ vs) = .ok ts) (hlen : ts.length ≤ 99999)
    (hstep : ∀ σ3 H4 ρ1 G4 t tacc acc Nx, SR C B σ3 H4 ρ1 G4 → (∀ (k : Nat) (t : T), ρ1[k]? = some (.ow t) → σ3[k]? ≠ some (some (.ref D))) → (∀ (k : Nat) (e : VS.D) (v : V) (F : List Addr), ρ1[k]? = some (.dp e) → σ3[k]? = some (some v) → Dv C B.w H4 G4 e v F → D ∉ F) → G4 D = none → B.1 D = none → fe ρ1 = .ok t → H4 D = some acc → A G4 tacc acc → tacc.length < 99999 → (∃ r, tacc ++ (t :: r) = ts) →
      (∀ H5 G5 acc', Gr H4 G4 H5 G5 → H5 D = some acc → A G5 (tacc ++ [t]) acc' → Nx (upd H5 D acc')) → STEP σ3 H4 Nx)
    (hfin : ∀ H' G' acc, Gr H1 G1 H' G' → H' D = some acc → G' D = none → A G' ts acc → Qd H') :
    ∃ W : Nat → Nat → Hp → Prop, (∃ m, W 0 m (upd H1 D o0)) ∧ ∀ i m H, W i m H → (J.stop i H ∧ Qd H) ∨ (J.go i H ∧ ∃ Nx : Hp → Prop, (∀ H', Nx H' → ∃ m', m' < m ∧ W (i + 1) m' H') ∧
      ∀ x H', J.yld i H x H' → tG C.K g x (L2.wipe σ vs) H' fun σ2 H2 => L2.wipe σ2 vs = L2.wipe σ vs ∧ tMT C B W0 fc σ2 H2 fun b H3 => if b = true then STEP σ2 H3 Nx else Nx H3) := by
  have sw := s1.wipe vs
  have hDB : B.1 D = none := fresh_back s1.gr.eh hD
  have hDG : G1 D = none := ex_none s1.exGH hD
  have notOwn : ∀ (i : Nat) (t : T), (wipeE ρ vs)[i]? = some (.ow t) → (L2.wipe σ vs)[i]? ≠ some (some (.ref D)) := fun i t e ea => by
    obtain ⟨a, o, q1, _, q3, _⟩ := sw.ow i t e
    rw [q1] at ea
    cases ea
    rw [hD] at q3
    cases q3
  refine ⟨fun i m H' => m = l.length - i ∧ i ≤ l.length ∧ ∃ G' acc tacc rest, SR C B (L2.wipe σ vs) H' (wipeE ρ vs) G' ∧ Gr H1 G1 H' G' ∧ G' D = none ∧ H' D = some acc ∧ A G' tacc acc ∧ compF g fc fe (l.drop i) (wipeE ρ vs) = .ok rest ∧ tacc ++ rest = ts,
    ⟨_, rfl, Nat.zero_le _, G1, o0, [], ts, sw.beside hDB hDG notOwn (sw.dpFree (Gr.refl sw.exGH) hD), Gr.own s1.exGH hD, hDG, upd_same, h0, by rw [List.drop_zero]; exact ec, rfl⟩, ?_⟩
  rintro i m H' ⟨rfl, hi, G', acc, tacc, rest, sr, gr, gD, hA', isA, er, et⟩
  by_cases hlt : i < l.length
  · rw [List.drop_eq_getElem_cons hlt] at er
    unfold compF at er
    refine .inr ⟨wk.go i H' (gr.eg.trans sr.exGH) hlt, fun H2 => i + 1 ≤ l.length ∧ ∃ G' acc tacc rest, SR C B (L2.wipe σ vs) H2 (wipeE ρ vs) G' ∧ Gr H1 G1 H2 G' ∧ G' D = none ∧ H2 D = some acc ∧ A G' tacc acc ∧ compF g fc fe (l.drop (i + 1)) (wipeE ρ vs) = .ok rest ∧ tacc ++ rest = ts,
      fun H2 ⟨h1, h2⟩ => ⟨l.length - (i + 1), by omega, rfl, h1, h2⟩, fun x H2 y => ?_⟩
    obtain ⟨G2, g2, ix⟩ := wk.yld i H' G' x H2 l[i] gr.eg sr.exGH (List.getElem?_eq_getElem hlt) y
    have s2 := sr.ext g2
    have gD2 : G2 D = none := g2.sep _ _ gD hA'
    have hA2 := g2.eh _ _ hA'
    cases est : setT g l[i] (wipeE ρ vs) with
    | none =>
      simp only [est] at er
      cases er
    | some ρ1 =>
      simp only [est] at er
      have base : tG C.K g x (L2.wipe σ vs) H2 (fun σ3 H3 => H3 = H2 ∧ SR C B σ3 H3 ρ1 G2) := tg_of (C := C) s2 ix est fun σ3 s3 => ⟨rfl, s3⟩
      refine tg_imp (fun σ3 H3 ⟨⟨kl, kj⟩, eH, s3⟩ => ?_) (tg_keep base)
      subst eH
      refine ⟨(wipe_same (σ := L2.wipe σ vs) kl.symm fun j hj => kj j fun z => hj (hw j z)).trans (wipe_same (wipe_length σ vs).symm fun j hj => by rw [wipe_get, if_neg hj]), ρ1, G2, s3, ?_⟩
      cases efc : fc ρ1 with
      | ok t =>
        simp only [efc] at er
        cases t with
        | bl b =>
          intro H4 G4 g4
          have s4 := s3.ext g4
          have gD4 : G4 D = none := g4.sep _ _ gD2 hA2
          have hA4 := g4.eh _ _ hA2
          have sr4 := sr.ext (g2.trans g4)
          have gg4 := (gr.trans g2).trans g4
          have no3 : ∀ (k : Nat) (t : T), ρ1[k]? = some (.ow t) → σ3[k]? ≠ some (some (.ref D)) := fun k t e ea => by
            obtain ⟨e1, n1⟩ := setT_old est e (fun _ z => by cases z)
            rw [kj k n1] at ea
            exact notOwn k t e1 ea
          have dp3 : ∀ (k : Nat) (e : VS.D) (v : V) (F : List Addr), ρ1[k]? = some (.dp e) → σ3[k]? = some (some v) → Dv C B.w H4 G4 e v F → D ∉ F := fun k e v F e0 ea hd => by
            obtain ⟨e1, n1⟩ := setT_old est e0 (fun _ z => by cases z)
            rw [kj k n1] at ea
            exact sw.dpFree gg4 hD k e v F e1 ea hd
          cases b with
          | true =>
            cases efe : fe ρ1 with
            | ok t =>
              simp only [efe] at er
              cases ec2 : compF g fc fe (l.drop (i + 1)) (wipeE ρ vs) with
              | ok r2 =>
                rw [ec2] at er
                have er' : (Res.ok (t :: r2) : Res (List T)) = .ok rest := er
                cases er'
                have la : tacc.length + (r2.length + 1) = ts.length := by rw [← et, List.length_append, List.length_cons]
                refine iteT (hstep σ3 H4 ρ1 G4 t tacc acc _ s4 no3 dp3 gD4 hDB efe hA4 (hA _ _ _ _ (g2.eg.trans g4.eg) isA) (by omega) ⟨r2, et⟩ fun H5 G5 acc' g5 hA5 isA5 => ?_)
                have gD5 : G5 D = none := g5.sep _ _ gD4 hA4
                have sr5 := sr4.ext g5
                have gg := ((gr.trans g2).trans g4).trans g5
                exact ⟨hlt, G5, acc', tacc ++ [t], r2, sr5.beside hDB gD5 notOwn (sw.dpFree gg hD), ⟨Ex.mut gg.eh hD, gg.eg, Ex.mut gg.gh gD5, gg.sep⟩, gD5, upd_same, isA5, rfl, by rw [List.append_assoc]; exact et⟩
              | ex x q => rw [ec2] at er; cases er
              | bad => rw [ec2] at er; cases er
            | ex x q => simp only [efe] at er; cases er
            | bad => simp only [efe] at er; cases er
          | false =>
            exact iteF ⟨hlt, G4, acc, tacc, rest, sr4, (gr.trans g2).trans g4, gD4, hA4, hA _ _ _ _ (g2.eg.trans g4.eg) isA, er, et⟩
        | _ => cases er
      | ex x q => simp only [efc] at er; cases er
      | bad => simp only [efc] at er; cases er
  · have e : i = l.length := by omega
    subst e
    rw [List.drop_length] at er
    have er' : (Res.ok [] : Res (List T)) = .ok rest := er
    cases er'
    rw [List.append_nil] at et
    subst et
    exact .inl ⟨wk.stop H' (gr.eg.trans sr.exGH), hfin H' G' acc gr hA' gD isA⟩
def flatL (l : List T) : List T := l.flatMap fun t => match t with | .lst x => x | _ => []
theorem flatL_app (a b : List T) : flatL (a ++ b) = flatL a ++ flatL b := List.flatMap_append
def eIn (fi1 : FI) (g1 : Tg) (vs1 : List Nat) (fe : FE) : FE := fun ρ => (fi1 ρ).bind fun l => (compF g1 (eC (.bl true)) fe l (wipeE ρ vs1)).bind fun ts => if ts.length ≤ 99999 then .ok (.lst ts) else .bad
def eComp2 (fi : FI) (g : Tg) (vs : List Nat) (fi1 : FI) (g1 : Tg) (vs1 : List Nat) (fe : FE) : FE := fun ρ => (fi ρ).bind fun l => (compF g (eC (.bl true)) (eIn fi1 g1 vs1 fe) l (wipeE ρ vs)).bind fun ts => if ts.length ≤ 99999 ∧ (flatL ts).length ≤ 99999 then .ok (.lst (flatL ts)) else .bad
theorem compF_nox {g : Tg} {fc fe : FE} {ρ : Ev'} : ∀ (l : List T) (x : Str) (q : List T), compF g fc fe l ρ ≠ .ex x q := by
  intro l
  induction l with
  | nil => intro x q z; cases z
  | cons a r ih =>
    intro x q z
    unfold compF at z
    split at z
    · cases z
    · split at z
      · split at z
        · cases er : compF g fc fe r ρ with
          | ok w => rw [er] at z; cases z
          | ex x' q' => exact ih x' q' er
          | bad => rw [er] at z; cases z
        · cases z
      · exact ih x q z
      · cases z
theorem comp2_of {W : WX} {fi fi1 : FI} {g g1 : Tg} {vs vs1 : List Nat} {fe : FE} {H : Hp} {Q : VK} (hw : ∀ i ∈ tgs g, i ∈ vs) (hw1 : ∀ i ∈ tgs g1, i ∈ vs1) (h : tM C B .N W (eComp2 fi g vs fi1 g1 vs1 fe) σ H Q) :
    tLc2 (tI C B W fi) (tG C.K g) (tMT C B W0 (eC (.bl true))) (tI C B W0 fi1) (tG C.K g1) (tMT C B W0 (eC (.bl true))) (tM C B .E W0 fe) vs vs1 σ H Q := by
  obtain ⟨ρ, G, s, p⟩ := h
  refine ⟨ρ, G, s, ?_⟩
  unfold eComp2 at p
  cases ei : fi ρ with
  | bad => rw [ei] at p; exact p
  | ex x q => rw [ei] at p; exact p
  | ok l =>
    rw [ei] at p
    intro J H1 G1 g1' wk D hD
    have s1 := s.ext g1'
    have hD0 : H D = none := fresh_back g1'.eh hD
    have p1 : Post C .N W σ H G ((compF g (eC (.bl true)) (eIn fi1 g1 vs1 fe) l (wipeE ρ vs)).bind fun ts => if ts.length ≤ 99999 ∧ (flatL ts).length ≤ 99999 then .ok (.lst (flatL ts)) else .bad) Q := p
    cases ec : compF g (eC (.bl true)) (eIn fi1 g1 vs1 fe) l (wipeE ρ vs) with
    | bad => rw [ec] at p1; exact p1.elim
    | ex x q => exact (compF_nox l x q ec).elim
    | ok ts =>
      rw [ec] at p1
      have p2 : Post C .N W σ H G (if ts.length ≤ 99999 ∧ (flatL ts).length ≤ 99999 then .ok (.lst (flatL ts)) else .bad) Q := p1
      split at p2
      rotate_left
      · exact p2.elim
      rename_i hlen
      refine comp_gen2 (C := C) (B := B) (σ := σ) (o0 := .lst []) (Qd := Q (.ref D)) (STEP := fun σ2 H3 Nx => tI C B W0 fi1 σ2 H3 fun J1 H4 => ∃ W1 : Nat → Nat → Hp → Prop, (∃ m, W1 0 m H4) ∧ ∀ j k H, W1 j k H →
        (J1.stop j H ∧ Nx H) ∨ (J1.go j H ∧ ∃ Nx1 : Hp → Prop, (∀ H', Nx1 H' → ∃ k', k' < k ∧ W1 (j + 1) k' H') ∧ ∀ x H', J1.yld j H x H' → tG C.K g1 x (L2.wipe σ2 vs1) H' fun σ3 H5 => L2.wipe σ3 vs1 = L2.wipe σ2 vs1 ∧ tMT C B W0 (eC (.bl true)) σ3 H5 fun b H6 =>
          if b = true then tM C B .E W0 fe σ3 H6 fun y H7 => ∃ acc, H7 D = some (.lst acc) ∧ acc.length < sizeLine ∧ Nx1 (upd H7 D (.lst (acc ++ [y]))) else Nx1 H6)) (fun G us o => ∃ vs', o = .lst vs' ∧ IsL C G (flatL us) vs') (fun G G' us o e ⟨v, h1, h2⟩ => ⟨v, h1, IsL.mono e _ _ h2⟩) hw wk s1 hD ⟨[], rfl, IsL.nil⟩ ec hlen.1 ?_ ?_
      · intro σ3 H4 ρ1 G4 t tacc acc Nx s4 no3 dp3 gD hDB efe hA4 isA hlt ⟨r, er⟩ hNx
        unfold eIn at efe
        cases e1 : fi1 ρ1 with
        | bad => rw [e1] at efe; cases efe
        | ex x q => rw [e1] at efe; cases efe
        | ok l1 =>
          rw [e1] at efe
          have efe : ((compF g1 (eC (.bl true)) fe l1 (wipeE ρ1 vs1)).bind fun ts => if ts.length ≤ 99999 then Res.ok (T.lst ts) else .bad) = .ok t := efe
          cases ec1 : compF g1 (eC (.bl true)) fe l1 (wipeE ρ1 vs1) with
          | bad => rw [ec1] at efe; cases efe
          | ex x q => rw [ec1] at efe; cases efe
          | ok ts1 =>
            rw [ec1] at efe
            have efe : (if ts1.length ≤ 99999 then Res.ok (T.lst ts1) else .bad) = .ok t := efe
            split at efe
            rotate_left
            · cases efe
            rename_i hl1
            cases efe
            refine ⟨ρ1, G4, s4, ?_⟩
            rw [e1]
            intro J1 H5 G5 g5 wk1
            have s5 := s4.ext g5
            have gD5 : G5 D = none := g5.sep _ _ gD hA4
            have hA5 := g5.eh _ _ hA4
            have dp5 : ∀ (k : Nat) (e : VS.D) (v : V) (F : List Addr), ρ1[k]? = some (.dp e) → σ3[k]? = some (some v) → Dv C B.w H5 G5 e v F → D ∉ F := fun k e v F q1 q2 q3 => by
              obtain ⟨Fp, h1, _, _, _⟩ := s4.dp
              obtain ⟨v', k1, k2, _⟩ := h1 k e q1
              rw [q2] at k1
              cases k1
              have eF := k2.det g5.eg _ _ _ _ (fun x _ o z => g5.eh x o z) q3
              rw [← eF]
              exact dp3 k e v _ q1 q2 k2
            have sm := s5.unD hDB gD5 no3 dp5
            obtain ⟨vs0, rfl, ia⟩ := isA
            have lts : (flatL ts).length = (flatL tacc).length + (ts1.length + (flatL r).length) := by
              rw [← er, flatL_app, List.length_append]
              show (flatL tacc).length + (ts1 ++ flatL r).length = _
              rw [List.length_append]
            have lv0 : vs0.length = (flatL tacc).length := (IsL.length ia).symm
            have main := comp_gen2 (C := C) (B := B) (σ := σ3) (J := J1) (l := l1) (g := g1) (fc := eC (.bl true)) (fe := fe) (vs := vs1) (H1 := mask H5 [D]) (G1 := G5) (ρ := ρ1) (D := D) (o0 := .lst vs0) (Qd := Nx) (STEP := fun σ3 H6 Nx1 => tM C B .E W0 fe σ3 H6 fun y H7 => ∃ acc, H7 D = some (.lst acc) ∧ acc.length < sizeLine ∧ Nx1 (upd H7 D (.lst (acc ++ [y]))))
              (fun G us o => ∃ vs', o = .lst (vs0 ++ vs') ∧ IsL C G us vs') (fun G G' us o e ⟨v, h1, h2⟩ => ⟨v, h1, IsL.mono e _ _ h2⟩) hw1 wk1 sm (mask_in (List.mem_singleton.mpr rfl)) ⟨[], by rw [List.append_nil], IsL.nil⟩ ec1 hl1
              (fun σ6 H6 ρ6 G6 t6 tacc6 acc6 Nx1 s6 _ _ _ _ efe6 hA6 isA6 _ ⟨r6, er6⟩ hN6 => by
                refine ⟨ρ6, G6, s6, ?_⟩
                rw [efe6]
                intro v H7 G7 g7 iv
                obtain ⟨vs', rfl, il⟩ := isA6
                have hA7 := g7.eh _ _ hA6
                have l6 : tacc6.length + (r6.length + 1) = ts1.length := by rw [← er6, List.length_append, List.length_cons]
                refine ⟨vs0 ++ vs', hA7, sz_lt (by rw [List.length_append, lv0, ← IsL.length il]; omega), hN6 H7 G7 _ g7 hA7 ⟨vs' ++ [v], by rw [List.append_assoc], (IsL.mono g7.eg _ _ il).app (IsL.one iv)⟩⟩)
              (fun H' G' acc' g' hA' gD' isA' => by
                obtain ⟨vs', rfl, il⟩ := isA'
                have hk : ∀ x o, x ≠ D → H4 x = some o → H' x = some o := fun x o n z => g'.eh x o (by rw [mask_out (fun m => n (List.mem_singleton.mp m))]; exact g5.eh x o z)
                have gr4 : Gr H4 G4 (upd H' D (.lst vs0)) G' := by
                  refine ⟨fun x o z => ?_, g5.eg.trans g'.eg, fun x o z => ?_, fun x o z y => ?_⟩
                  · by_cases e : x = D
                    · rw [e, upd_same, ← hA4, ← z, e]
                    · rw [upd_ne e]; exact hk x o e z
                  · have e : x ≠ D := fun q => by rw [q, gD'] at z; cases z
                    rw [upd_ne e]; exact g'.gh x o z
                  · by_cases e : x = D
                    · rw [e]; exact gD'
                    · exact g'.sep x o (g5.sep x o z y) (by rw [mask_out (fun m => e (List.mem_singleton.mp m))]; exact g5.eh x o y)
                have fin := hNx (upd H' D (.lst vs0)) G' (.lst (vs0 ++ vs')) gr4 upd_same ⟨_, rfl, by
                  rw [flatL_app]
                  show IsL C G' (flatL tacc ++ (ts1 ++ [])) _
                  rw [List.append_nil]
                  exact (IsL.mono (g5.eg.trans g'.eg) _ _ ia).app il⟩
                have eq : upd (upd H' D (.lst vs0)) D (.lst (vs0 ++ vs')) = H' := by
                  funext x
                  by_cases e : x = D
                  · rw [e, upd_same, hA']
                  · rw [upd_ne e, upd_ne e]
                rw [eq] at fin
                exact fin)
            rw [upd_mask hA5] at main
            exact main
      · intro H' G' acc gr hA' gD ⟨vs', e, il⟩
        subst e
        exact p2 _ H' G' (g1'.trans gr) ⟨D, _, rfl, hD0, hA', gD, vs', rfl, il⟩
end
section
variable {X : Cx} {B : BS} {W : WX} {tg iter tg1 iter1 elt : Expr} {scope : Scope} {own : List (Str × Nat)} {vs1 : List Nat} {pos : Pos} {fi fi1 : FI} {g g1 : Tg} {fe : FE}
theorem d_lc2 (hc : X.calm = true) (hN : X.N.Nodup) (hi : DI X B W tg iter fi) (ok : BlkOk X.N X.env.scope scope own) (hv : ∀ i ∈ vs1, i ∈ own.map (·.2)) (hw : ∀ i ∈ tgs g, i ∈ own.map (·.2)) (hw1 : ∀ i ∈ tgs g1, i ∈ vs1)
    (hg : ∀ (s : Shared) (H : Hp) (C : Addr) (cl : List (Str × Addr)) (fp : List Addr), DG (X.blk s H scope (compEnvC scope cl C X.env) fp) tg g)
    (hi1 : ∀ (s : Shared) (H : Hp) (C : Addr) (cl : List (Str × Addr)) (fp : List Addr), DI (X.blk s H scope (compEnvC scope cl C X.env) fp) B W0 tg1 iter1 fi1)
    (hg1 : ∀ (s : Shared) (H : Hp) (C : Addr) (cl : List (Str × Addr)) (fp : List Addr), DG (X.blk s H scope (compEnvC scope cl C X.env) fp) tg1 g1)
    (he : ∀ (s : Shared) (H : Hp) (C : Addr) (cl : List (Str × Addr)) (fp : List Addr), DE (X.blk s H scope (compEnvC scope cl C X.env) fp) B W0 .E elt fe) (hs : ∀ x, foldedSetIterable iter X.env x = pure x := by intro _; rfl) (hs1 : ∀ env x, foldedSetIterable iter1 env x = pure x := by intro _ _; rfl) :
    DE X B W .N (.ListComp elt [⟨tg, iter, [], 0⟩, ⟨tg1, iter1, [], 0⟩] scope pos) (eComp2 fi g (own.map (·.2)) fi1 g1 vs1 fe) :=
  PE.imp (pe_lc2 (g := tG X.K g) (tt := tMT (km X) B W0 (eC (.bl true))) (wi1 := tI (km X) B W0 fi1) (g1 := tG X.K g1) (tt1 := tMT (km X) B W0 (eC (.bl true))) (te := tM (km X) B .E W0 fe) hc hN hi ok hv hg (fun _ _ _ _ _ => ts_nil) hi1 hg1 (fun _ _ _ _ _ => ts_nil) he hs hs1) fun σ H Q h => comp2_of hw hw1 h
theorem st_newLc2 {i : Nat} {y : Str} {py spos : Pos} (hc : X.calm = true) (hN : X.N.Nodup) (hy : X.N[i]? = some y) (hyl : X.env.scope.names.lookup y = some .local)
    (hsw : swapsWith (.ListComp elt [⟨tg, iter, [], 0⟩, ⟨tg1, iter1, [], 0⟩] scope pos) (some (.Name y py)) spos.line X.env = pure true) (hi : DI X B W tg iter fi) (ok : BlkOk X.N X.env.scope scope own) (hv : ∀ i ∈ vs1, i ∈ own.map (·.2)) (hw : ∀ i ∈ tgs g, i ∈ own.map (·.2)) (hw1 : ∀ i ∈ tgs g1, i ∈ vs1)
    (hg : ∀ (s : Shared) (H : Hp) (C : Addr) (cl : List (Str × Addr)) (fp : List Addr), DG (X.blk s H scope (compEnvC scope cl C X.env) fp) tg g)
    (hi1 : ∀ (s : Shared) (H : Hp) (C : Addr) (cl : List (Str × Addr)) (fp : List Addr), DI (X.blk s H scope (compEnvC scope cl C X.env) fp) B W0 tg1 iter1 fi1)
    (hg1 : ∀ (s : Shared) (H : Hp) (C : Addr) (cl : List (Str × Addr)) (fp : List Addr), DG (X.blk s H scope (compEnvC scope cl C X.env) fp) tg1 g1)
    (he : ∀ (s : Shared) (H : Hp) (C : Addr) (cl : List (Str × Addr)) (fp : List Addr), DE (X.blk s H scope (compEnvC scope cl C X.env) fp) B W0 .E elt fe) (hs : ∀ x, foldedSetIterable iter X.env x = pure x := by intro _; rfl) (hs1 : ∀ env x, foldedSetIterable iter1 env x = pure x := by intro _ _; rfl) :
    DS X B W (.Assign [.Name y py] (.ListComp elt [⟨tg, iter, [], 0⟩, ⟨tg1, iter1, [], 0⟩] scope pos) spos) (sNew i (eComp2 fi g (own.map (·.2)) fi1 g1 vs1 fe)) :=
  PS.imp (ps_setLc2 (g := tG X.K g) (tt := tMT (km X) B W0 (eC (.bl true))) (wi1 := tI (km X) B W0 fi1) (g1 := tG X.K g1) (tt1 := tMT (km X) B W0 (eC (.bl true))) (te := tM (km X) B .E W0 fe) hc hN hy hyl hsw hi ok hv hg (fun _ _ _ _ _ => ts_nil) hi1 hg1 (fun _ _ _ _ _ => ts_nil) he hs hs1) fun D σ H ⟨ρ, G, s, p⟩ => comp2_of hw hw1 (bindSt s p fun t v H1 G1 g s1 i p1 => by
    obtain ⟨a, o, rfl, h1, h2, h3, h4⟩ := i
    refine p1 _ H1 G1 (s1.set (fun u e => by cases e) (fun u e => ?_) (fun y p e => by cases e) (fun d e => by cases e) (fun t b _ eb => by cases eb; exact s.dpFree g h1)) (Ex.refl _)
    cases e
    refine ⟨a, o, rfl, fresh_back s.gr.eh h1, h2, h3, h4, fun j w ej ea => ?_⟩
    obtain ⟨b, ob, q1, _, q3, _⟩ := s.ow j w ej
    rw [q1] at ea
    cases ea
    rw [h1] at q3
    cases q3)
end
end VS

/-! own classes: an instance of one's own in a slot; its fields, its methods -/
namespace VS
open PySem PySem.Spec PyProof.Rows L2 Evl

/-! ### fields by their names -/
def fGet (f : Str) : List Str → List D → Option D
  | n :: ns, d :: ds => if f = n then some d else fGet f ns ds
  | _, _ => none
def fPut (f : Str) (d : D) : List Str → List D → List Str × List D
  | n :: ns, e :: ds => if n = f then (n :: ns, d :: ds) else (n :: (fPut f d ns ds).1, e :: (fPut f d ns ds).2)
  | _, _ => ([f], [d])
section
variable {C : KM} {w : World} {H G H' G' : Hp} {f : Str}
theorem look_cons {n : Str} {v : V} {r : List (Str × V)} : ((n, v) :: r).lookup f = if f = n then some v else r.lookup f := by
  by_cases h : f = n
  · rw [if_pos h]
    simp [List.lookup, h]
  · rw [if_neg h]
    have hb : (f == n) = false := beq_eq_false_iff_ne.mpr h
    simp only [List.lookup, hb]
theorem fGet_at {d : D} : ∀ {ns : List Str} {ds : List D} {vs : List V} {F : List Addr}, fGet f ns ds = some d → DvL C w H G ds vs F → ∃ v F1, (ns.zip vs).lookup f = some v ∧ Dv C w H G d v F1 ∧ ∀ x ∈ F1, x ∈ F
  | [], _, _, _, e, _ => by cases e
  | _ :: _, [], _, _, e, _ => by cases e
  | n :: ns, c :: ds, vs, F, e, h => by
    unfold DvL at h
    obtain ⟨v, r, F1, F2, rfl, h1, h2, rfl⟩ := h
    rw [List.zip_cons_cons, look_cons]
    unfold fGet at e
    by_cases z : f = n
    · rw [if_pos z] at e ⊢
      cases e
      exact ⟨v, F1, rfl, h1, fun x m => List.mem_append_left _ m⟩
    · rw [if_neg z] at e ⊢
      obtain ⟨u, F3, k1, k2, k3⟩ := fGet_at e h2
      exact ⟨u, F3, k1, k2, fun x m => List.mem_append_right _ (k3 x m)⟩
theorem fGet_no : ∀ {ns : List Str} {ds : List D} {vs : List V} {F : List Addr}, fGet f ns ds = none → ns.length = vs.length → DvL C w H G ds vs F → (ns.zip vs).lookup f = none
  | [], _, _, _, _, _, _ => rfl
  | _ :: _, [], vs, _, _, hl, h => by
    unfold DvL at h
    obtain ⟨rfl, _⟩ := h
    cases hl
  | n :: ns, c :: ds, vs, F, e, hl, h => by
    unfold DvL at h
    obtain ⟨v, r, F1, F2, rfl, h1, h2, rfl⟩ := h
    rw [List.zip_cons_cons, look_cons]
    unfold fGet at e
    by_cases z : f = n
    · rw [if_pos z] at e
      cases e
    · rw [if_neg z] at e ⊢
      exact fGet_no e (Nat.succ.inj hl) h2
/-- a field is stored: what the value holds of its own stands at Fd -/
theorem fPut_at {d : D} {v : V} {Fd : List Addr} (hd : Dv C w H G d v Fd) : ∀ {ns : List Str} {ds : List D} {vs : List V} {F : List Addr}, ns.length = vs.length → DvL C w H G ds vs F → F.Nodup → Fd.Nodup → (∀ x ∈ Fd, x ∉ F) →
    ∃ vs' F', putF f v (ns.zip vs) = (fPut f d ns ds).1.zip vs' ∧ (fPut f d ns ds).1.length = vs'.length ∧ DvL C w H G (fPut f d ns ds).2 vs' F' ∧ (∀ x ∈ F', x ∈ F ∨ x ∈ Fd) ∧ F'.Nodup
  | [], ds, vs, F, hl, h, nF, nD, dis => by
    cases vs with
    | cons a r => cases hl
    | nil =>
      refine ⟨[v], Fd, rfl, rfl, ?_, fun x m => .inr m, nD⟩
      show DvL C w H G [d] [v] Fd
      unfold DvL
      exact ⟨v, [], Fd, [], rfl, hd, by unfold DvL; exact ⟨rfl, rfl⟩, (List.append_nil _).symm⟩
  | n :: ns, [], vs, F, hl, h, _, _, _ => by
    unfold DvL at h
    obtain ⟨rfl, _⟩ := h
    cases hl
  | n :: ns, c :: ds, vs, F, hl, h, nF, nD, dis => by
    unfold DvL at h
    obtain ⟨u, r, F1, F2, rfl, h1, h2, rfl⟩ := h
    obtain ⟨n1, n2, n3⟩ := List.nodup_append.mp nF
    rw [List.zip_cons_cons]
    unfold putF fPut
    by_cases z : n = f
    · rw [if_pos z, if_pos z]
      refine ⟨v :: r, Fd ++ F2, rfl, by simpa using hl, ?_, fun x m => ?_, ?_⟩
      · unfold DvL
        exact ⟨v, r, Fd, F2, rfl, hd, h2, rfl⟩
      · rcases List.mem_append.mp m with m | m
        · exact .inr m
        · exact .inl (List.mem_append_right _ m)
      · exact List.nodup_append.mpr ⟨nD, n2, fun a ma b mb e => dis a ma (by rw [e]; exact List.mem_append_right _ mb)⟩
    · rw [if_neg z, if_neg z]
      obtain ⟨vs', F', k1, k2, k3, k4, k5⟩ := fPut_at (ns := ns) hd (Nat.succ.inj hl) h2 n2 nD fun x m m2 => dis x m (List.mem_append_right _ m2)
      refine ⟨u :: vs', F1 ++ F', by rw [k1]; rfl, by simpa using k2, ?_, fun x m => ?_, ?_⟩
      · unfold DvL
        exact ⟨u, vs', F1, F', rfl, h1, k3, rfl⟩
      · rcases List.mem_append.mp m with m | m
        · exact .inl (List.mem_append_left _ m)
        · rcases k4 x m with q | q
          · exact .inl (List.mem_append_right _ q)
          · exact .inr q
      · refine List.nodup_append.mpr ⟨n1, k5, fun a ma b mb e => ?_⟩
        rcases k4 b mb with q | q
        · exact n3 a ma b q e
        · exact dis b q (by rw [← e]; exact List.mem_append_left _ ma)
/-- what a field holds is changed where it stands -/
theorem fUpd_at {d : D} : ∀ {ns : List Str} {ds : List D} {vs : List V} {F : List Addr}, fGet f ns ds = some d → DvL C w H G ds vs F → F.Nodup → ∃ v F1, (ns.zip vs).lookup f = some v ∧ Dv C w H G d v F1 ∧ (∀ x ∈ F1, x ∈ F) ∧
    ∀ (H' : Hp) (d' : D), (∀ x, x ∈ F → x ∉ F1 → ∀ o, H x = some o → H' x = some o) → Dv C w H' G d' v F1 → (fPut f d' ns ds).1 = ns ∧ DvL C w H' G (fPut f d' ns ds).2 vs F
  | [], _, _, _, e, _, _ => by cases e
  | _ :: _, [], _, _, e, _, _ => by cases e
  | n :: ns, c :: ds, vs, F, e, h, nF => by
    unfold DvL at h
    obtain ⟨v, r, F1, F2, rfl, h1, h2, rfl⟩ := h
    obtain ⟨n1, n2, n3⟩ := List.nodup_append.mp nF
    rw [List.zip_cons_cons, look_cons]
    unfold fGet at e
    by_cases z : f = n
    · rw [if_pos z] at e ⊢
      cases e
      refine ⟨v, F1, rfl, h1, fun x m => List.mem_append_left _ m, fun H' d' hk hd' => ?_⟩
      unfold fPut
      rw [if_pos z.symm]
      refine ⟨rfl, ?_⟩
      unfold DvL
      exact ⟨v, r, F1, F2, rfl, hd', h2.mono (Ex.refl _) _ _ _ (fun x m o q => hk x (List.mem_append_right _ m) (fun m2 => n3 x m2 x m rfl) o q), rfl⟩
    · rw [if_neg z] at e ⊢
      obtain ⟨u, F3, k1, k2, k3, k4⟩ := fUpd_at e h2 n2
      refine ⟨u, F3, k1, k2, fun x m => List.mem_append_right _ (k3 x m), fun H' d' hk hd' => ?_⟩
      obtain ⟨e1, e2⟩ := k4 H' d' (fun x m m2 o q => hk x (List.mem_append_right _ m) m2 o q) hd'
      unfold fPut
      rw [if_neg fun q => z q.symm]
      refine ⟨by rw [e1], ?_⟩
      unfold DvL
      exact ⟨v, r, F1, F2, rfl, h1.mono (Ex.refl _) _ _ _ (fun x m o q => hk x (List.mem_append_left _ m) (fun m2 => n3 x m x (k3 x m2) rfl) o q), e2, rfl⟩
theorem ob_open {c : Str} {ns : List Str} {ds : List D} {v : V} {F : List Addr} (h : Dv C w H G (.ob c ns ds) v F) : ∃ a Cc dx vs F', v = .ref a ∧ C.mg c = some (.ref Cc) ∧ H a = some (.ins Cc dx (ns.zip vs)) ∧ H dx = some (.own a) ∧ ns.length = vs.length ∧ DvL C w H G ds vs F' ∧ F = a :: dx :: F' := by
  unfold Dv at h
  exact h
theorem ob_close {c : Str} {ns : List Str} {ds : List D} {a Cc dx : Addr} {vs : List V} {F' : List Addr} (h1 : C.mg c = some (.ref Cc)) (h2 : H a = some (.ins Cc dx (ns.zip vs))) (h3 : H dx = some (.own a)) (h4 : ns.length = vs.length) (h5 : DvL C w H G ds vs F') :
    Dv C w H G (.ob c ns ds) (.ref a) (a :: dx :: F') := by
  unfold Dv
  exact ⟨a, Cc, dx, vs, F', rfl, h1, h2, h3, h4, h5, rfl⟩
end
/-- what the written part says of a class and of its fields -/
structure ClO (K : PySem.W.Frag) (mg : Str → Option Value) (c : Str) (fs : List Str) : Prop where
  ex : ∃ Cc, mg c = some (.ref Cc) ∧ Cls K Cc ∧ ∀ f ∈ fs, NoAttr K Cc f

/-! ### x.f -/
def eFd (i : Nat) (c f : Str) : FE := fun ρ => match ρ[i]? with
  | some (.dp (.ob c' ns ds)) => if c' = c then (match fGet f ns ds with | some (.sh t) => .ok t | _ => .bad) else .bad
  | _ => .bad
def eFdS (i : Nat) (c f : Str) : FE := fun ρ => match ρ[i]? with
  | some (.dp (.ob c' ns ds)) => if c' = c then (match fGet f ns ds with | some (.sh t) => .ok t | some (.ls l) => .ok (.lst l) | _ => .bad) else .bad
  | _ => .bad
section
variable {X : Cx} {B : BS} {W : WX} {e a : Expr} {es : List Expr} {fa : FE} {fr : FA} {pos p p1 p2 p3 : Pos} {i : Nat} {x c f : Str} {fs : List Str}
theorem d_fd (T : ClO X.K X.mg c fs) (hN : X.N[i]? = some x := by rfl) (hv : Vis X.env.scope x := by first | exact Or.inl rfl | exact Or.inr (Or.inl rfl) | exact Or.inr (Or.inr rfl)) (hf : f ∈ fs := by decide) (hd : (x == ("__debug__" : Str)) = false := by decide) (hcd : (x == ("__classdict__" : Str)) = false := by decide)
    (hb : attributeBase (.Name x p) f X.env (eval (.Name x p) X.env) = eval (.Name x p) X.env := by rfl) : DE X B W .E (.Attribute (.Name x p) f pos) (eFd i c f) :=
  PE.imp (pe_fld (pe_var hN hv hd hcd) hb) fun σ H Q ⟨ρ, G, s, q⟩ => by
    unfold eFd at q
    split at q
    · rename_i c' ns ds e0
      split at q
      · rename_i ec
        subst ec
        obtain ⟨v, F, h1, h2, h3, h4⟩ := s.dpAt e0
        obtain ⟨ad, Cc, dx, vs, F', rfl, k1, k2, k3, k4, k5, rfl⟩ := ob_open h2
        obtain ⟨Cc', g1, g2, g3⟩ := T.ex
        cases (show X.mg c' = some (.ref Cc) from k1).symm.trans g1
        refine ⟨_, h1, ad, Cc, dx, ns.zip vs, ?_⟩
        split at q
        · rename_i t e1
          obtain ⟨u, F1, l1, l2, _⟩ := fGet_at e1 k5
          unfold Dv at l2
          exact ⟨u, rfl, k2, g2, g3 f hf, l1, q u H G (Gr.refl s.exGH) l2.1⟩
        · exact q.elim
      · exact q.elim
    · exact q.elim
theorem d_fdS (T : ClO X.K X.mg c fs) (hN : X.N[i]? = some x := by rfl) (hv : Vis X.env.scope x := by first | exact Or.inl rfl | exact Or.inr (Or.inl rfl) | exact Or.inr (Or.inr rfl)) (hf : f ∈ fs := by decide) (hd : (x == ("__debug__" : Str)) = false := by decide) (hcd : (x == ("__classdict__" : Str)) = false := by decide)
    (hb : attributeBase (.Name x p) f X.env (eval (.Name x p) X.env) = eval (.Name x p) X.env := by rfl) : DE X B W .S (.Attribute (.Name x p) f pos) (eFdS i c f) :=
  PE.imp (pe_fld (pe_var hN hv hd hcd) hb) fun σ H Q ⟨ρ, G, s, q⟩ => by
    unfold eFdS at q
    split at q
    · rename_i c' ns ds e0
      split at q
      · rename_i ec
        subst ec
        obtain ⟨v, F, h1, h2, h3, h4⟩ := s.dpAt e0
        obtain ⟨ad, Cc, dx, vs, F', rfl, k1, k2, k3, k4, k5, rfl⟩ := ob_open h2
        obtain ⟨Cc', g1, g2, g3⟩ := T.ex
        cases (show X.mg c' = some (.ref Cc) from k1).symm.trans g1
        refine ⟨_, h1, ad, Cc, dx, ns.zip vs, ?_⟩
        split at q
        · rename_i t e1
          obtain ⟨u, F1, l1, l2, _⟩ := fGet_at e1 k5
          unfold Dv at l2
          exact ⟨u, rfl, k2, g2, g3 f hf, l1, q u H G (Gr.refl s.exGH) (.inl l2.1)⟩
        · rename_i l e1
          obtain ⟨u, F1, l1, l2, _⟩ := fGet_at e1 k5
          unfold Dv at l2
          obtain ⟨b, ws, rfl, m1, m2, _⟩ := l2
          exact ⟨_, rfl, k2, g2, g3 f hf, l1, q _ H G (Gr.refl s.exGH) (.inr ⟨b, _, rfl, m1, ws, rfl, m2⟩)⟩
        · exact q.elim
      · exact q.elim
    · exact q.elim
end
end VS

/-! own classes: stores to fields -/
namespace VS
open PySem PySem.Spec PyProof.Rows L2 Evl

section
variable {X : Cx} {B : BS} {W : WX} {e a : Expr} {es : List Expr} {fa : FE} {fr : FA} {pos p p1 p2 p3 p4 : Pos} {i : Nat} {x c f : Str} {fs : List Str}
/-- the instance in a slot, with one field stored -/
theorem SR.fdPut {C : KM} {σ : L2.St} {H G : Hp} {ρ : Ev'} {ns : List Str} {ds : List D} {ad Cc dx : Addr} {vs : List V} {F' : List Addr} {d : D} {v : V} {Fd : List Addr} (s : SR C B σ H ρ G) (e0 : ρ[i]? = some (.dp (.ob c ns ds))) (ev : σ[i]? = some (some (.ref ad)))
    (k1 : C.mg c = some (.ref Cc)) (k2 : H ad = some (.ins Cc dx (ns.zip vs))) (k3 : H dx = some (.own ad)) (k4 : ns.length = vs.length) (k5 : DvL C B.w H G ds vs F') (nd : (ad :: dx :: F').Nodup)
    (hd : Dv C B.w H G d v Fd) (nD : Fd.Nodup) (dis : ∀ x ∈ Fd, x ∉ ad :: dx :: F') (hF : ∀ x ∈ Fd, B.1 x = none ∧ G x = none)
    (ap : ∀ (k : Nat) (e : D) (u : V) (F2 : List Addr), k ≠ i → ρ[k]? = some (.dp e) → σ[k]? = some (some u) → Dv C B.w H G e u F2 → ∀ x ∈ Fd, x ∉ F2) (ap2 : ∀ (j : Nat) (t : T) (b : Addr), j ≠ i → ρ[j]? = some (.ow t) → σ[j]? = some (some (.ref b)) → b ∉ Fd) :
    SR C B σ (upd H ad (.ins Cc dx (putF f v (ns.zip vs)))) (ρ.set i (.dp (.ob c (fPut f d ns ds).1 (fPut f d ns ds).2))) G := by
  obtain ⟨n1, nd1⟩ := List.nodup_cons.mp nd
  obtain ⟨n2, nd2⟩ := List.nodup_cons.mp nd1
  obtain ⟨vs', F2, q1, q2, q3, q4, q5⟩ := fPut_at (f := f) hd k4 k5 nd2 nD fun x m m2 => dis x m (List.mem_cons_of_mem _ (List.mem_cons_of_mem _ m2))
  have hn : ∀ x ∈ F2, x ≠ ad := fun x m z => by
    rcases q4 x m with q | q
    · exact n1 (List.mem_cons_of_mem _ (by rw [← z]; exact q))
    · exact dis x q (by rw [z]; exact List.mem_cons_self)
  have q3' : DvL C B.w (upd H ad (.ins Cc dx (putF f v (ns.zip vs)))) G (fPut f d ns ds).2 vs' F2 := q3.mono (Ex.refl _) _ _ _ fun x m o z => by rw [upd_ne (hn x m)]; exact z
  have ndx : dx ≠ ad := fun z => n1 (by rw [z]; exact List.mem_cons_self)
  have hd2 : Dv C B.w (upd H ad (.ins Cc dx (putF f v (ns.zip vs)))) G (.ob c (fPut f d ns ds).1 (fPut f d ns ds).2) (.ref ad) (ad :: dx :: F2) :=
    ob_close k1 (by rw [upd_same, q1]) (by rw [upd_ne ndx]; exact k3) q2 q3'
  have nd9 : (ad :: dx :: F2).Nodup := by
    refine List.nodup_cons.mpr ⟨fun m => ?_, List.nodup_cons.mpr ⟨fun m => ?_, q5⟩⟩
    · rcases List.mem_cons.mp m with z | m
      · exact ndx z.symm
      · exact hn ad m rfl
    · rcases q4 dx m with q | q
      · exact n2 q
      · exact dis dx q (List.mem_cons_of_mem _ List.mem_cons_self)
  -- first the instance, then what is new in it
  have hd0 : Dv C B.w H G (.ob c ns ds) (.ref ad) (ad :: dx :: F') := ob_close k1 k2 k3 k4 k5
  obtain ⟨Fp, h1, h2, h3, h4⟩ := s.dp
  obtain ⟨v', r1, r2, r3, r4⟩ := h1 i _ e0
  rw [ev] at r1
  cases r1
  have eF := hd0.det (Ex.refl _) _ _ _ _ (fun x _ o z => z) r2
  have hin : ∀ x ∈ ad :: dx :: F2, x ∈ Fp i ∨ x ∈ Fd := fun x m => by
    rw [← eF]
    rcases List.mem_cons.mp m with rfl | m
    · exact .inl List.mem_cons_self
    · rcases List.mem_cons.mp m with rfl | m
      · exact .inl (List.mem_cons_of_mem _ List.mem_cons_self)
      · rcases q4 x m with q | q
        · exact .inl (List.mem_cons_of_mem _ (List.mem_cons_of_mem _ q))
        · exact .inr q
  have ne : ∀ {x : Addr}, x ∉ Fp i → x ≠ ad := fun {x} n z => n (by rw [z, ← eF]; exact List.mem_cons_self)
  have hk : ∀ x, x ∉ Fp i → ∀ o, H x = some o → upd H ad (.ins Cc dx (putF f v (ns.zip vs))) x = some o := fun x n o z => by rw [upd_ne (ne n)]; exact z
  have out : ∀ {x : Addr} {o : HO}, G x = some o → x ∉ Fp i := fun {x o} z m => by rw [(r4 x m).2] at z; cases z
  refine ⟨⟨fun x o z => hk x (fun m => by rw [(r4 x m).1] at z; cases z) o (s.gr.eh x o z), s.gr.eg, fun x o z => hk x (out z) o (s.gr.gh x o z), s.gr.sep⟩, fun j t z => ?_, fun j t z => ?_, fun j k t u b hjk z1 z2 z3 z4 => ?_, by rw [List.length_set]; exact s.len, fun j y q z => ?_, ?_⟩
  · rcases set_get z with ⟨_, w⟩ | ⟨_, w⟩
    · cases w
    · exact s.sh j t w
  · rcases set_get z with ⟨_, w⟩ | ⟨_, w⟩
    · cases w
    · obtain ⟨b, o, g1, g2, g3, g4, g5⟩ := s.ow j t w
      exact ⟨b, o, g1, g2, hk b (h3 i j _ t b e0 w g1) o g3, g4, g5⟩
  · rcases set_get z1 with ⟨_, w⟩ | ⟨_, w1⟩
    · cases w
    · rcases set_get z2 with ⟨_, w⟩ | ⟨_, w2⟩
      · cases w
      · exact s.ds j k t u b hjk w1 w2 z3 z4
  · rcases set_get z with ⟨_, w⟩ | ⟨_, w⟩
    · cases w
    · exact s.xn j y q w
  · refine ⟨fun k => if k = i then ad :: dx :: F2 else Fp k, fun k c1 z => ?_, fun j k c1 c2 x hjk z1 z2 m1 m2 => ?_, fun j k c1 t b z1 z2 z3 m => ?_, fun q mq c1 z => ?_⟩
    · rcases set_get z with ⟨rfl, w⟩ | ⟨n, w⟩
      · cases w
        simp only [if_true]
        refine ⟨_, ev, hd2, nd9, fun x m => ?_⟩
        rcases hin x m with q | q
        · exact r4 x q
        · exact hF x q
      · obtain ⟨u, g1, g2, g3, g4⟩ := h1 k c1 w
        simp only [if_neg n]
        exact ⟨u, g1, g2.mono (Ex.refl _) _ _ _ (fun x m o y => hk x (fun m2 => h2 k i c1 _ x n w e0 m m2) o y), g3, g4⟩
    · have old : ∀ {j : Nat} {c1 : D} {x : Addr}, ρ[j]? = some (.dp c1) → x ∈ Fp j → j ≠ i → x ∉ ad :: dx :: F2 := fun {j c1 x} w m n m2 => by
        rcases hin x m2 with q | q
        · exact h2 j i c1 _ x n w e0 m q
        · obtain ⟨u, g1, g2, _⟩ := h1 j c1 w
          exact ap j c1 u _ n w g1 g2 x q m
      rcases set_get z1 with ⟨a1, w1⟩ | ⟨a1, w1⟩
      · rcases set_get z2 with ⟨a2, w2⟩ | ⟨a2, w2⟩
        · exact hjk (a1.trans a2.symm)
        · simp only [if_pos a1] at m1
          simp only [if_neg a2] at m2
          exact old w2 m2 a2 m1
      · rcases set_get z2 with ⟨a2, w2⟩ | ⟨a2, w2⟩
        · simp only [if_neg a1] at m1
          simp only [if_pos a2] at m2
          exact old w1 m1 a1 m2
        · simp only [if_neg a1] at m1
          simp only [if_neg a2] at m2
          exact h2 j k c1 c2 x hjk w1 w2 m1 m2
    · rcases set_get z2 with ⟨_, w⟩ | ⟨nk, w⟩
      · cases w
      · rcases set_get z1 with ⟨a1, w1⟩ | ⟨a1, w1⟩
        · simp only [if_pos a1] at m
          rcases hin b m with q | q
          · exact h3 i k _ t b e0 w z3 q
          · exact ap2 k t b nk w z3 q
        · simp only [if_neg a1] at m
          exact h3 j k c1 t b w1 w z3 m
    · rcases set_get z with ⟨a1, w⟩ | ⟨_, w⟩
      · exact h4 q mq _ (by rw [a1]; exact e0)
      · exact h4 q mq _ w
/-- x.f = e, the value shared -/
def sFd (i : Nat) (c f : Str) (fa : FE) : FS := fun ρ => sLift ρ (fa ρ) fun t => match ρ[i]? with
  | some (.dp (.ob c' ns ds)) => if c' = c ∧ ns.length < 900 then .nx (ρ.set i (.dp (.ob c' (fPut f (.sh t) ns ds).1 (fPut f (.sh t) ns ds).2))) else .bad
  | _ => .bad
/-- x.f = e, a new list -/
def sFdN (i : Nat) (c f : Str) (fa : FE) : FS := fun ρ => sLift ρ (fa ρ) fun t => match t, ρ[i]? with
  | .lst l, some (.dp (.ob c' ns ds)) => if c' = c ∧ ns.length < 900 then .nx (ρ.set i (.dp (.ob c' (fPut f (.ls l) ns ds).1 (fPut f (.ls l) ns ds).2))) else .bad
  | _, _ => .bad
theorem zip_len {α β : Type} {ns : List α} {vs : List β} (h : ns.length = vs.length) : (ns.zip vs).length = ns.length := by rw [List.length_zip, ← h, Nat.min_self]
theorem st_fd (T : ClO X.K X.mg c fs) (he : DE X B W .E e fa) (hN : X.N[i]? = some x := by rfl) (hv : Vis X.env.scope x := by first | exact Or.inl rfl | exact Or.inr (Or.inl rfl) | exact Or.inr (Or.inr rfl)) (hf : f ∈ fs := by decide) (hd : (x == ("__debug__" : Str)) = false := by decide) (hcd : (x == ("__classdict__" : Str)) = false := by decide)
    (hs : swapsWith e (some (.Attribute (.Name x p) f p2)) pos.line X.env = pure false := by rfl) : DS X B W (.Assign [.Attribute (.Name x p) f p2] e pos) (sFd i c f fa) :=
  PS.imp (ps_fld (pe_var hN hv hd hcd) he hs) fun Dn σ H ⟨ρ, G, s, q⟩ => bindSt (m := .E) s q fun t v H1 G1 g s1 it p1 => by
    split at p1
    · rename_i c' ns ds e0
      split at p1
      · rename_i ec
        obtain ⟨rfl, hl⟩ := ec
        obtain ⟨u, F, h1, h2, h3, h4⟩ := s1.dpAt e0
        obtain ⟨ad, Cc, dx, vs, F', rfl, k1, k2, k3, k4, k5, rfl⟩ := ob_open h2
        obtain ⟨Cc', g1, g2, g3⟩ := T.ex
        cases (show X.mg c' = some (.ref Cc) from k1).symm.trans g1
        refine ⟨_, h1, ad, Cc, dx, ns.zip vs, rfl, k2, g2, g3 f hf, by rw [zip_len k4]; omega, p1 σ _ G1 (s1.fdPut e0 h1 k1 k2 k3 k4 k5 h3 (d := .sh t) (v := v) (Fd := []) (by unfold Dv; exact ⟨it, rfl⟩) List.nodup_nil (fun _ m => by cases m) (fun _ m => by cases m) (fun _ _ _ _ _ _ _ _ _ m => by cases m) (fun _ _ _ _ _ _ m => by cases m)) (Ex.refl _)⟩
      · exact p1.elim
    · exact p1.elim
theorem st_fdN (T : ClO X.K X.mg c fs) (he : DE X B W .N e fa) (hN : X.N[i]? = some x := by rfl) (hv : Vis X.env.scope x := by first | exact Or.inl rfl | exact Or.inr (Or.inl rfl) | exact Or.inr (Or.inr rfl)) (hf : f ∈ fs := by decide) (hd : (x == ("__debug__" : Str)) = false := by decide) (hcd : (x == ("__classdict__" : Str)) = false := by decide)
    (hs : swapsWith e (some (.Attribute (.Name x p) f p2)) pos.line X.env = pure false := by rfl) : DS X B W (.Assign [.Attribute (.Name x p) f p2] e pos) (sFdN i c f fa) :=
  PS.imp (ps_fld (pe_var hN hv hd hcd) he hs) fun Dn σ H ⟨ρ, G, s, q⟩ => bindSt (m := .N) s q fun t v H1 G1 g s1 it p1 => by
    split at p1
    · rename_i l c' ns ds e0
      split at p1
      · rename_i ec
        obtain ⟨rfl, hl⟩ := ec
        obtain ⟨u, F, h1, h2, h3, h4⟩ := s1.dpAt e0
        obtain ⟨ad, Cc, dx, vs, F', rfl, k1, k2, k3, k4, k5, rfl⟩ := ob_open h2
        obtain ⟨Cc', g1, g2, g3⟩ := T.ex
        cases (show X.mg c' = some (.ref Cc) from k1).symm.trans g1
        obtain ⟨b, o, rfl, n1, n2, n3, ws, rfl, n4⟩ := it
        have old : ∀ {k : Nat} {e : D} {u : V} {F2 : List Addr}, ρ[k]? = some (.dp e) → σ[k]? = some (some u) → Dv (km X) B.w H1 G1 e u F2 → b ∉ F2 := fun {k e u F2} z1 z2 z3 => s.dpFree g n1 k e u F2 z1 z2 z3
        refine ⟨_, h1, ad, Cc, dx, ns.zip vs, rfl, k2, g2, g3 f hf, by rw [zip_len k4]; omega, p1 σ _ G1 (s1.fdPut e0 h1 k1 k2 k3 k4 k5 h3 (d := .ls l) (v := .ref b) (Fd := [b]) (by unfold Dv; exact ⟨b, ws, rfl, n2, n4, rfl⟩) (by simp) (fun y m => by rw [List.mem_singleton.mp m]; exact old e0 h1 h2) (fun y m => by
            rw [List.mem_singleton.mp m]
            exact ⟨fresh_back s.gr.eh n1, n3⟩) (fun k e2 u2 F2 _ z1 z2 z3 y m => by rw [List.mem_singleton.mp m]; exact old z1 z2 z3) (fun j t2 b2 _ z1 z2 m => by
            rw [List.mem_singleton.mp m] at z2
            obtain ⟨b3, o3, w1, _, w3, _⟩ := s.ow j t2 z1
            rw [w1] at z2
            cases z2
            rw [n1] at w3
            cases w3)) (Ex.refl _)⟩
      · exact p1.elim
    · exact p1.elim
end
end VS

/-! own classes: x.f.append(e), x.f += e, x.f, y = e -/
namespace VS
open PySem PySem.Spec PyProof.Rows L2 Evl

section
variable {X : Cx} {B : BS} {W : WX} {e a : Expr} {es : List Expr} {fa : FE} {fr : FA} {pos p p1 p2 p3 p4 : Pos} {i : Nat} {x c f : Str} {fs : List Str}
def sFdA (i : Nat) (c f : Str) (fa : FE) : FS := fun ρ => match ρ[i]? with
  | some (.dp (.ob c' ns ds)) => if c' = c then (match fGet f ns ds with
    | some (.ls l) => sLift ρ (fa ρ) fun t => if l.length < 100000 then .nx (ρ.set i (.dp (.ob c' ns (fPut f (.ls (l ++ [t])) ns ds).2))) else .bad
    | _ => .bad) else .bad
  | _ => .bad
theorem st_fdA (T : ClO X.K X.mg c fs) (ha : DE X B W .E a fa) (h : PE X (.Call (.Attribute (.Attribute (.Name x p1) f p2) "append" p3) [a] [] p4) (tBM X.K "list" rAppend (tFld X.K (tVar i) f) (tCons (tM (km X) B .E W fa) tNil))) (hf : f ∈ fs := by decide)
    (hs : swapsWith (.Call (.Attribute (.Attribute (.Name x p1) f p2) "append" p3) [a] [] p4) none pos.line X.env = pure false := by rfl) : DS X B W (.Expr (.Call (.Attribute (.Attribute (.Name x p1) f p2) "append" p3) [a] [] p4) pos) (sFdA i c f fa) :=
  PS.imp (ps_expr h hs) fun Dn σ H ⟨ρ, G, s, q⟩ => by
    unfold sFdA at q
    split at q
    · rename_i c' ns ds e0
      split at q
      · rename_i ec
        subst ec
        split at q
        · rename_i l e1
          obtain ⟨u, F, h1, h2, h3, h4⟩ := s.dpAt e0
          obtain ⟨ad, Cc, dx, vs, F', rfl, k1, k2, k3, k4, k5, rfl⟩ := ob_open h2
          obtain ⟨Cc', g1, g2, g3⟩ := T.ex
          cases (show X.mg c' = some (.ref Cc) from k1).symm.trans g1
          obtain ⟨v, F1, l1, l2, l3⟩ := fGet_at e1 k5
          unfold Dv at l2
          obtain ⟨b, ws, rfl, m1, m2, rfl⟩ := l2
          refine ⟨_, h1, ad, Cc, dx, ns.zip vs, .ref b, rfl, k2, g2, g3 f hf, l1, .inl ⟨rfl, ws, SqL.of m1⟩, bindSt (m := .E) s q fun t v H1 G1 g s1 it p1 => ?_⟩
          split at p1
          · rename_i hl
            have g' := g
            have h2' := h2.mono g.eg _ _ _ (fun x m o z => g.eh x o z)
            obtain ⟨ad2, Cc2, dx2, vs2, F2, z1, y1, y2, y3, y4, y5, z2⟩ := ob_open h2'
            cases z1
            cases (List.cons.inj (List.cons.inj z2).2).2
            cases (List.cons.inj (List.cons.inj z2).2).1
            obtain ⟨n1, nd1⟩ := List.nodup_cons.mp h3
            obtain ⟨n2, nd2⟩ := List.nodup_cons.mp nd1
            obtain ⟨v2, F3, x1, x2, x3, x4⟩ := fUpd_at (d := .ls l) e1 y5 nd2
            unfold Dv at x2
            obtain ⟨b2, ws2, rfl, w1, w2, rfl⟩ := x2
            have eb : b2 = b := by
              have r := g.eh _ _ k2
              rw [y2] at r
              injection r with r
              injection r with _ _ r
              rw [r, l1] at x1
              cases x1
              rfl
            subst eb
            refine ⟨b2, ws2, v, rfl, rfl, w1, sz_lt (by rw [← w2.length]; exact hl), ?_⟩
            have hb : b2 ∈ F' := x3 b2 (List.mem_singleton_self _)
            obtain ⟨e5, e6⟩ := x4 (upd H1 b2 (.lst (ws2 ++ [v]))) (.ls (l ++ [t])) (fun y _ m2 o z => by rw [upd_ne fun r => m2 (List.mem_singleton.mpr r)]; exact z) (by unfold Dv; exact ⟨b2, _, rfl, upd_same, w2.app (IsL.one it), rfl⟩)
            have na : ad ≠ b2 := fun r => n1 (List.mem_cons_of_mem _ (by rw [r]; exact hb))
            have nx : dx ≠ b2 := fun r => n2 (by rw [r]; exact hb)
            have hd2 : Dv (km X) B.w (upd H1 b2 (.lst (ws2 ++ [v]))) G1 (.ob c' ns (fPut f (.ls (l ++ [t])) ns ds).2) (.ref ad) (ad :: dx :: F') :=
              ob_close y1 (by rw [upd_ne na]; exact y2) (by rw [upd_ne nx]; exact y3) y4 e6
            refine p1 σ _ G1 (s1.dpUpd e0 h1 h2' (fun y m o z => ?_) hd2 h3 fun y m => .inl m) (Ex.refl _)
            rw [upd_ne fun r => m (by rw [r]; exact List.mem_cons_of_mem _ (List.mem_cons_of_mem _ hb))]
            exact z
          · exact p1.elim
        · exact q.elim
      · exact q.elim
    · exact q.elim
/-- x.f += e, ints -/
def sFdAdd (i : Nat) (c f : Str) (fa : FE) : FS := fun ρ => match ρ[i]? with
  | some (.dp (.ob c' ns ds)) => if c' = c ∧ ns.length < 900 then (match fGet f ns ds with
    | some (.sh (.int n)) => sLift ρ (fa ρ) fun t => (match t with
      | .int k => .nx (ρ.set i (.dp (.ob c' (fPut f (.sh (.int (n + k))) ns ds).1 (fPut f (.sh (.int (n + k))) ns ds).2)))
      | _ => .bad)
    | _ => .bad) else .bad
  | _ => .bad
theorem st_fdAdd (T : ClO X.K X.mg c fs) (he : DE X B W .E e fa) (hN : X.N[i]? = some x := by rfl) (hv : Vis X.env.scope x := by first | exact Or.inl rfl | exact Or.inr (Or.inl rfl) | exact Or.inr (Or.inr rfl)) (hf : f ∈ fs := by decide) (hd : (x == ("__debug__" : Str)) = false := by decide) (hcd : (x == ("__classdict__" : Str)) = false := by decide) :
    DS X B W (.AugAssign (.Attribute (.Name x p) f p2) .Add e pos) (sFdAdd i c f fa) :=
  PS.imp (ps_fldaug (pe_var hN hv hd hcd) he in_add) fun Dn σ H ⟨ρ, G, s, q⟩ => by
    unfold sFdAdd at q
    split at q
    · rename_i c' ns ds e0
      split at q
      · rename_i ec
        obtain ⟨rfl, hl⟩ := ec
        split at q
        · rename_i n e1
          obtain ⟨u, F, h1, h2, h3, h4⟩ := s.dpAt e0
          obtain ⟨ad, Cc, dx, vs, F', rfl, k1, k2, k3, k4, k5, rfl⟩ := ob_open h2
          obtain ⟨Cc', g1, g2, g3⟩ := T.ex
          cases (show X.mg c' = some (.ref Cc) from k1).symm.trans g1
          obtain ⟨v, F1, l1, l2, l3⟩ := fGet_at e1 k5
          unfold Dv at l2
          obtain ⟨l2, _⟩ := l2
          unfold Is at l2
          subst l2
          refine ⟨_, h1, ad, Cc, dx, ns.zip vs, .int n, rfl, k2, g2, g3 f hf, l1, bindSt (m := .E) s q fun t v H1 G1 g s1 it p1 => ?_⟩
          split at p1
          · rename_i k
            have it' : VS.Is (km X) G1 (.int k) v := it
            unfold Is at it'
            subst it'
            have y2 := g.eh _ _ k2
            have h2' := h2.mono g.eg _ _ _ (fun x m o z => g.eh x o z)
            refine ⟨n, k, rfl, rfl, dx, ns.zip vs, y2, by rw [zip_len k4]; omega, p1 σ _ G1 (s1.fdPut e0 h1 k1 y2 (g.eh _ _ k3) k4 (k5.mono g.eg _ _ _ (fun x m o z => g.eh x o z)) h3 (d := .sh (.int (n + k))) (v := .int (n + k)) (Fd := []) (by unfold Dv; exact ⟨Is.intI, rfl⟩) List.nodup_nil (fun _ m => by cases m) (fun _ m => by cases m) (fun _ _ _ _ _ _ _ _ _ m => by cases m) (fun _ _ _ _ _ _ m => by cases m)) (Ex.refl _)⟩
          · exact p1.elim
        · exact q.elim
      · exact q.elim
    · exact q.elim
/-- o.f as a target -/
def gFld (K : PySem.W.Frag) (ta : TE) (f : Str) : TG := fun v σ H Q => ta σ H fun x H1 => ∃ a C dx fs, x = .ref a ∧ H1 a = some (.ins C dx fs) ∧ Cls K C ∧ NoAttr K C f ∧ fs.length < 1000 ∧ Q σ (upd H1 a (.ins C dx (putF f v fs)))
theorem pg_fldO {o : Expr} {ta : TE} (ho : PE X o ta) : PG X (.Attribute o f pos) (gFld X.K ta f) := by
  refine ⟨fun pins s σ H v u Q I r h => ?_⟩
  refine PySem.W.kas_attr (thn (ho.run pins s σ H _ I h) fun ov s1 ⟨x, H1, I1, rx, a, C, dx, fs, ex, ea, c, n, l, q⟩ => ?_)
  subst ex
  obtain rfl : ov = Value.ref a := rx
  exact setattr_ok I1 ea c n l r fun s2 I2 => ⟨σ, _, I2, q⟩
/-- x.f, y = e -/
def sFdT (i : Nat) (c f : Str) (j : Nat) (fa : FE) : FS := fun ρ => sLift ρ (fa ρ) fun t => match t, ρ[i]? with
  | .tup [t1, t2], some (.dp (.ob c' ns ds)) => if c' = c ∧ ns.length < 900 then .nx ((ρ.set i (.dp (.ob c' (fPut f (.sh t1) ns ds).1 (fPut f (.sh t1) ns ds).2))).set j (.sh t2)) else .bad
  | _, _ => .bad
theorem st_fdT {j : Nat} {y : Str} {k : Nat} {p5 p6 : Pos} (T : ClO X.K X.mg c fs) (he : DE X B W .E e fa) (hc : X.calm = true) (hn : X.N.Nodup) (hj : X.N[j]? = some y) (hy : Loc X.env.scope y) (hN : X.N[i]? = some x := by rfl) (hv : Vis X.env.scope x := by first | exact Or.inl rfl | exact Or.inr (Or.inl rfl) | exact Or.inr (Or.inr rfl)) (hf : f ∈ fs := by decide) (hd : (x == ("__debug__" : Str)) = false := by decide) (hcd : (x == ("__classdict__" : Str)) = false := by decide)
    (hx : X.fn y = true ∨ X.env.scope.names.lookup y = some .local := by first | exact .inl rfl | exact .inr rfl | assumption)
    (a1 : (assignEach [.Attribute (.Name x p) f p2, .Name y p5] X.env).map (·.2) = assign (.Attribute (.Name x p) f p2) X.env :: (assignEach [.Name y p5] X.env).map (·.2) := by rfl) (a2 : (assignEach [.Name y p5] X.env).map (·.2) = assign (.Name y p5) X.env :: (assignEach [] X.env).map (·.2) := by rfl)
    (a3 : (assignEach [.Attribute (.Name x p) f p2, .Name y p5] X.env).length = 2 := by rfl) (a4 : (assignEach [.Attribute (.Name x p) f p2, .Name y p5] X.env).findIdx? (·.1) = none := by rfl)
    (hs : swapsWithSole [.Tuple [.Attribute (.Name x p) f p2, .Name y p5] k p6] e pos.line X.env = pure false := by rfl) (hw : swappedStores [.Tuple [.Attribute (.Name x p) f p2, .Name y p5] k p6] e X.env = pure none := by rfl)
    (a5 : (assignEach [.Tuple [.Attribute (.Name x p) f p2, .Name y p5] k p6] X.env).map (·.2) = [assign (.Tuple [.Attribute (.Name x p) f p2, .Name y p5] k p6) X.env] := by rfl) :
    DS X B W (.Assign [.Tuple [.Attribute (.Name x p) f p2, .Name y p5] k p6] e pos) (sFdT i c f j fa) :=
  PS.imp (ps_asg he (pg_tup hc (pgs_cons (pg_fldO (pe_var hN hv hd hcd)) (pgs_cons (pg_name hn hj hy hx) pgs_nil a2) a1) a3 a4) hs hw a5) fun Dn σ H ⟨ρ, G, s, q⟩ => bindSt (m := .E) s q fun t v H1 G1 g s1 it p1 => by
    split at p1
    · rename_i t1 t2 c' ns ds e0
      split at p1
      · rename_i ec
        obtain ⟨rfl, hl⟩ := ec
        obtain ⟨u, F, h1, h2, h3, h4⟩ := s1.dpAt e0
        obtain ⟨ad, Cc, dx, vs, F', rfl, k1, k2, k3, k4, k5, rfl⟩ := ob_open h2
        obtain ⟨Cc', g1, g2, g3⟩ := T.ex
        cases (show X.mg c' = some (.ref Cc) from k1).symm.trans g1
        have it' : VS.Is (km X) G1 (.tup [t1, t2]) v := it
        unfold Is at it'
        obtain ⟨b, ws, rfl, m1, m2⟩ := it'
        unfold IsL at m2
        obtain ⟨v1, r1, rfl, m3, m4⟩ := m2
        unfold IsL at m4
        obtain ⟨v2, r2, rfl, m5, m6⟩ := m4
        unfold IsL at m6
        subst m6
        refine ⟨b, [v1, v2], rfl, ex_t s1.exGH m1, rfl, v1, [v2], rfl, _, h1, ad, Cc, dx, ns.zip vs, rfl, k2, g2, g3 f hf, by rw [zip_len k4]; omega, v2, [], rfl, rfl, ?_⟩
        refine p1 _ _ G1 (SR.setSh (s1.fdPut e0 h1 k1 k2 k3 k4 k5 h3 (d := .sh t1) (v := v1) (Fd := []) (by unfold Dv; exact ⟨m3, rfl⟩) List.nodup_nil (fun _ m => by cases m) (fun _ m => by cases m) (fun _ _ _ _ _ _ _ _ _ m => by cases m) (fun _ _ _ _ _ _ m => by cases m)) m5) (Ex.refl _)
      · exact p1.elim
    · exact p1.elim
end
end VS

/-! own classes: methods, making, handing out -/
namespace VS
open PySem PySem.Spec PyProof.Rows L2 Evl

/-! ### o.m(..), what it may let out told at the slots -/
def tMethE (C : Addr) (m : Str) (sp : Sp) (E : L2.St → XK) (ta : TE) (t : TA) : TE := fun σ H Q => ta σ H fun x H1 => ∃ b dx fs, x = .ref b ∧ H1 b = some (.ins C dx fs) ∧ fs.lookup m = none ∧ t σ H1 fun us H2 => sp (x :: us) H2 Q (E σ)
section
variable {X : Cx} {CX : CXT} {k : Nat} {C f : Addr} {fd : FuncData} {ps : List Str} {sp : Sp} {E : L2.St → XK} {m : Str} {o e : Expr} {es : List Expr} {ta : TE} {t : TA} {q pos : Pos}
theorem pe_methE {pl : Sem Bool} (he : PE X o ta) (c : Cls X.K C) (hm : Meth X.K C m f) (F : FnOk X.prog X.w X.K X.mg X.base CX k f fd ps sp) (hr : Room k X.A) (hb : Binds X.K fd ps []) (hx : ∀ σ, PassesAt CX X σ (E σ)) (ha : PA X (e :: es) t)
    (h1 : starEach (e :: es) X.env = (false, eval e X.env) :: starEach es X.env := by rfl) (h2 : (backTo pos (starEach es X.env)).any (·.1) = false := by rfl)
    (h3 : eval (.Call (.Attribute o m q) (e :: es) [] pos) X.env = (do let ov ← eval o X.env; standAt q.atName; let (g, first) ← holding [ov] (getMethod ov m pl); callWith pos g first (backTo pos (starEach (e :: es) X.env)) (backToKw pos (keywordEach [] X.env))) := by rfl) :
    PE X (.Call (.Attribute o m q) (e :: es) [] pos) (tMethE C m sp E ta t) := by
  refine ⟨fun pins s σ H Q I h => PySem.W.methodCall_KW (pl := pl) (thn (he.run pins s σ H _ I h) fun u s1 ⟨x, H1, I1, rx, b, dx, fs, ex, eb, l, z⟩ => ?_) h3⟩
  subst ex
  obtain rfl : u = Value.ref b := rx
  refine getmeth_ok I1 eb c hm l (PySem.W.callWith_K (first := [.ref b]) (h₀ := X.base) I.ok.mod.kin hm.kp (thn (ha.run pos pins s1 σ H1 _ I1 z) fun us s2 ⟨vs, H2, I2, r, z2⟩ => ⟨I2.kIn, ?_⟩) h1 h2)
  exact run_fnS (us := .ref b :: us) (vs := .ref b :: vs) F hr hb (hx σ) I2 (.cons rfl r) z2
theorem pe_methE0 {pl : Sem Bool} (he : PE X o ta) (c : Cls X.K C) (hm : Meth X.K C m f) (F : FnOk X.prog X.w X.K X.mg X.base CX k f fd ps sp) (hr : Room k X.A) (hb : Binds X.K fd ps []) (hx : ∀ σ, PassesAt CX X σ (E σ))
    (h3 : eval (.Call (.Attribute o m q) [] [] pos) X.env = (do let ov ← eval o X.env; standAt q.atName; let (g, first) ← holding [ov] (getMethod ov m pl); callWith pos g first (backTo pos (starEach [] X.env)) (backToKw pos (keywordEach [] X.env))) := by rfl) :
    PE X (.Call (.Attribute o m q) [] [] pos) (tMethE C m sp E ta tNil) := by
  refine ⟨fun pins s σ H Q I h => PySem.W.methodCall_KW (pl := pl) (thn (he.run pins s σ H _ I h) fun u s1 ⟨x, H1, I1, rx, b, dx, fs, ex, eb, l, z⟩ => ?_) h3⟩
  subst ex
  obtain rfl : u = Value.ref b := rx
  exact getmeth_ok I1 eb c hm l (PySem.W.callWith_K0 (first := [.ref b]) I1.kIn hm.kp (run_fnS (us := [.ref b]) (vs := [.ref b]) F hr hb (hx σ) I1 (.cons rfl .nil) z))
end

/-! ### a method that is lent its instance -/
structure AtM (K : PySem.W.Frag) (mg : Str → Option Value) (c m qual : Str) (st : Stmt) (ps : List Str) : Prop where
  ex : ∃ (Cc f : Addr) (fd : FuncData), mg c = some (.ref Cc) ∧ Cls K Cc ∧ Meth K Cc m f ∧ Fun K m qual st f fd ∧ Binds K fd ps []
structure OkM (P : Program) (w : World) (K : PySem.W.Frag) (mg : Str → Option Value) (base : Heap) (k : Nat) (c m : Str) (n : Nat) (g : MirB) : Prop where
  ex : ∃ (Cc f : Addr) (fd : FuncData) (ps : List Str), mg c = some (.ref Cc) ∧ Cls K Cc ∧ Meth K Cc m f ∧ FnOk P w K mg base (L2.CX P w) k f fd ps (spDB ⟨K, mg⟩ w n 0 g) ∧ Binds K fd ps []
theorem okOM {P : Program} {w : World} {K : PySem.W.Frag} {mg : Str → Option Value} {base : Heap} {c x qual : Str} {st : Stmt} {N ps : List Str} {k n : Nat} {fs : FS} {m : MirB} (A : AtM K mg c x qual st ps) (S : FnScope N ps (defScope st)) (hn : n = ps.length) (hi : 0 < n) (hm : m = fDefB 0 N.length fs)
    (hbody : ∀ (f : Addr) (cdv : Value) (A : Around) (outer : List Env) (s : Shared) (H Hm G : Hp) (a : Addr) (E : XK), Room k (A.deeper (envOfC qual (defScope st) s.heap.objs.size f cdv)) →
      DSs (cxOf (L2.CX P w) P w K mg base N qual (defScope st) f cdv A outer s H E) ⟨Hm, G, none, .B a, w, [(0, a)]⟩ (fun cls d _ H' => E cls d H') (defBody st) fs) :
    OkM P w K mg base (k + 1) c x n m := by
  obtain ⟨Cc, f, fd, g1, g2, g3, F, b⟩ := A.ex
  rw [hm]
  exact ⟨Cc, f, fd, ps, g1, g2, g3, def_okB F S hn hi (hbody f), b⟩
def runM (j : Nat) (c m : Str) (n : Nat) (g : MirB) (fr : FA) (kk : T → Ev' → Out) : FS := fun ρ => match ρ[j]? with
  | some (.dp (.ob c' ns ds)) => if c' = c ∧ (fGet m ns ds).isNone = true then (match fr ρ with
    | .ok ts => if ts.length + 1 = n then (match g (.non :: ts) (.ob c' ns ds) with
      | .ok t d' => kk t (ρ.set j (.dp d'))
      | .ex x p d' => .ex x p (ρ.set j (.dp d'))
      | .bad => .bad) else .bad
    | .ex x p => .ex x p ρ
    | .bad => .bad) else .bad
  | _ => .bad
def sExpM (j : Nat) (c m : Str) (n : Nat) (g : MirB) (fr : FA) : FS := runM j c m n g fr fun _ ρ => .nx ρ
def sSetM (i j : Nat) (c m : Str) (n : Nat) (g : MirB) (fr : FA) : FS := runM j c m n g fr fun t ρ => .nx (ρ.set i (.sh t))
theorem fGet_none {f : Str} {ns : List Str} {ds : List D} (h : (fGet f ns ds).isNone = true) : fGet f ns ds = none := by
  cases e : fGet f ns ds with
  | none => rfl
  | some d => rw [e] at h; cases h
section
variable {X : Cx} {B : BS} {W : WX} {e : Expr} {es : List Expr} {fa fe : FE} {fr : FA} {pos spos p p1 p2 p3 pos' : Pos} {i j k n : Nat} {x y c m : Str} {g : MirB}
theorem runM_of {D : Ends} {σ : L2.St} {H G : Hp} {ρ : Ev'} {kk : T → Ev' → Out} {Q : VK} {Cc : Addr} {ta : TA} (hC : X.mg c = some (.ref Cc)) (hw : B.w = X.w) (hta : ∀ σ H Q, tMA (km X) B .E W fr σ H Q → ta σ H Q) (s : SR (km X) B σ H ρ G) (p : PostS (km X) B W D G (runM j c m n g fr kk ρ))
    (hq : ∀ t v H1 G1 ρ1, SR (km X) B σ H1 ρ1 G1 → Is (km X) G1 t v → PostS (km X) B W D G1 (kk t ρ1) → Q v H1) : tMethE Cc m (spDB (km X) X.w n 0 g) (WE W) (tVar j) ta σ H Q := by
  unfold runM at p
  split at p
  rotate_left
  · exact p.elim
  rename_i c' ns ds e0
  split at p
  rotate_left
  · exact p.elim
  rename_i hc
  obtain ⟨rfl, hno⟩ := hc
  obtain ⟨u, F, h1, h2, h3, h4⟩ := s.dpAt e0
  obtain ⟨ad, Cc', dx, vs, F', rfl, k1, k2, k3, k4, k5, rfl⟩ := ob_open h2
  cases (show X.mg c' = some (.ref Cc') from k1).symm.trans hC
  refine ⟨.ref ad, h1, ad, dx, ns.zip vs, rfl, k2, fGet_no (fGet_none hno) k4 k5, hta _ _ _ ⟨ρ, G, s, ?_⟩⟩
  cases er : fr ρ with
  | ok ts =>
    simp only [er] at p
    split at p
    rotate_left
    · exact p.elim
    rename_i hl
    intro us H1 G1 g1 is
    have s1 := s.ext g1
    have is' : VS.IsL (km X) G1 ts us := is
    have h2' := h2.mono g1.eg _ _ _ (fun x m o z => g1.eh x o z)
    have h2'' : Dv (km X) X.w H1 G1 (.ob c' ns ds) (.ref ad) (ad :: dx :: F') := by rw [← hw]; exact h2'
    have ib : IsB (km X) G1 0 (.ref ad) (.non :: ts) (.ref ad :: us) := by
      refine ⟨by rw [List.length_cons, List.length_cons, is'.length], rfl, fun k t nk z => ?_⟩
      cases k with
      | zero => exact (nk rfl).elim
      | succ k => exact is'.get z
    refine ⟨.non :: ts, _, ad, _, G1, s1.exGH, ib, by rw [List.length_cons]; exact hl, h2'', h3, fun x mx => ?_, ?_⟩
    · obtain ⟨o, ho⟩ := h2.there _ _ _ x mx
      exact g1.sep x o (h4 x mx).2 ho
    cases rg : g (.non :: ts) (.ob c' ns ds) with
    | ok t d' =>
      simp only [rg] at p
      intro u H2 G2 F2 g2 iu hd2 nd2 hF2
      have s2 := s1.lend e0 h1 h2' g2 (by rw [hw]; exact hd2) nd2 hF2
      exact hq t u H2 G2 _ s2 iu (PostS.mono (g1.eg.trans g2.eg) p)
    | ex y q d' =>
      simp only [rg] at p
      intro cls dd H2 G2 F2 g2 ix hd2 nd2 hF2
      have s2 := s1.lend e0 h1 h2' g2 (by rw [hw]; exact hd2) nd2 hF2
      exact p cls dd σ H2 G2 s2 (g1.eg.trans g2.eg) ix
    | bad => simp only [rg] at p; exact p.elim
  | ex y q =>
    simp only [er] at p
    exact fun cls dd H' G' g' ix => p cls dd σ H' G' (s.ext g') g'.eg ix
  | bad =>
    simp only [er] at p
    exact p.elim
theorem tNil_of {σ : L2.St} {H : Hp} {Q : List V → Hp → Prop} (h : tMA (km X) B .E W aNil σ H Q) : tNil σ H Q := by
  obtain ⟨ρ, G, s, p⟩ := h
  exact p [] H G (Gr.refl s.exGH) (show VS.IsL (km X) G [] [] from IsL.nil)
theorem st_expM (O : OkM X.prog X.w X.K X.mg X.base k c m n g) (hr : Room k X.A) (tk : Tk X W) (ha : DA X B W .E (e :: es) fr) (hN : X.N[j]? = some x := by rfl) (hv : Vis X.env.scope x := by first | exact Or.inl rfl | exact Or.inr (Or.inl rfl) | exact Or.inr (Or.inr rfl)) (hd : (x == ("__debug__" : Str)) = false := by decide) (hcd : (x == ("__classdict__" : Str)) = false := by decide)
    (hw : B.w = X.w := by rfl) (h1 : starEach (e :: es) X.env = (false, eval e X.env) :: starEach es X.env := by rfl) (h2 : (backTo p3 (starEach es X.env)).any (·.1) = false := by rfl)
    {pl : Sem Bool} (h3 : eval (.Call (.Attribute (.Name x p1) m p2) (e :: es) [] p3) X.env = (do let ov ← eval (.Name x p1) X.env; standAt p2.atName; let (g, first) ← holding [ov] (getMethod ov m pl); callWith p3 g first (backTo p3 (starEach (e :: es) X.env)) (backToKw p3 (keywordEach [] X.env))) := by rfl)
    (hs : swapsWith (.Call (.Attribute (.Name x p1) m p2) (e :: es) [] p3) none spos.line X.env = pure false := by rfl) : DS X B W (.Expr (.Call (.Attribute (.Name x p1) m p2) (e :: es) [] p3) spos) (sExpM j c m n g fr) := by
  obtain ⟨Cc, f, fd, ps, g1, g2, g3, g4, g5⟩ := O.ex
  exact PS.imp (ps_expr (pe_methE (pl := pl) (pe_var hN hv hd hcd) g2 g3 g4 hr g5 tk ha h1 h2 h3) hs) fun D σ H ⟨ρ, G, s, q⟩ => runM_of g1 hw (fun _ _ _ h => h) s q fun t v H1 G1 ρ1 s1 it p1 => p1 σ H1 G1 s1 (Ex.refl _)
theorem st_expM0 (O : OkM X.prog X.w X.K X.mg X.base k c m n g) (hr : Room k X.A) (tk : Tk X W) (hN : X.N[j]? = some x := by rfl) (hv : Vis X.env.scope x := by first | exact Or.inl rfl | exact Or.inr (Or.inl rfl) | exact Or.inr (Or.inr rfl)) (hd : (x == ("__debug__" : Str)) = false := by decide) (hcd : (x == ("__classdict__" : Str)) = false := by decide)
    (hw : B.w = X.w := by rfl) {pl : Sem Bool} (h3 : eval (.Call (.Attribute (.Name x p1) m p2) [] [] p3) X.env = (do let ov ← eval (.Name x p1) X.env; standAt p2.atName; let (g, first) ← holding [ov] (getMethod ov m pl); callWith p3 g first (backTo p3 (starEach [] X.env)) (backToKw p3 (keywordEach [] X.env))) := by rfl)
    (hs : swapsWith (.Call (.Attribute (.Name x p1) m p2) [] [] p3) none spos.line X.env = pure false := by rfl) : DS X B W (.Expr (.Call (.Attribute (.Name x p1) m p2) [] [] p3) spos) (sExpM j c m n g aNil) := by
  obtain ⟨Cc, f, fd, ps, g1, g2, g3, g4, g5⟩ := O.ex
  exact PS.imp (ps_expr (pe_methE0 (pl := pl) (pe_var hN hv hd hcd) g2 g3 g4 hr g5 tk h3) hs) fun D σ H ⟨ρ, G, s, q⟩ => runM_of g1 hw (fun _ _ _ h => tNil_of h) s q fun t v H1 G1 ρ1 s1 it p1 => p1 σ H1 G1 s1 (Ex.refl _)
theorem st_setM0 (O : OkM X.prog X.w X.K X.mg X.base k c m n g) (hr : Room k X.A) (tk : Tk X W) (hn : X.N.Nodup) (hi : X.N[i]? = some y) (hy : Loc X.env.scope y) (hN : X.N[j]? = some x := by rfl) (hv : Vis X.env.scope x := by first | exact Or.inl rfl | exact Or.inr (Or.inl rfl) | exact Or.inr (Or.inr rfl)) (hd : (x == ("__debug__" : Str)) = false := by decide) (hcd : (x == ("__classdict__" : Str)) = false := by decide)
    (hw : B.w = X.w := by rfl) {pl : Sem Bool} (h3 : eval (.Call (.Attribute (.Name x p1) m p2) [] [] p3) X.env = (do let ov ← eval (.Name x p1) X.env; standAt p2.atName; let (g, first) ← holding [ov] (getMethod ov m pl); callWith p3 g first (backTo p3 (starEach [] X.env)) (backToKw p3 (keywordEach [] X.env))) := by rfl)
    (hs : swapsWith (.Call (.Attribute (.Name x p1) m p2) [] [] p3) (some (.Name y pos')) spos.line X.env = pure false := by rfl) (hf : X.fn y = true ∨ X.env.scope.names.lookup y = some .local := by first | exact .inl rfl | exact .inr rfl | assumption) :
    DS X B W (.Assign [.Name y pos'] (.Call (.Attribute (.Name x p1) m p2) [] [] p3) spos) (sSetM i j c m n g aNil) := by
  obtain ⟨Cc, f, fd, ps, g1, g2, g3, g4, g5⟩ := O.ex
  exact PS.imp (ps_set hn hi hy (pe_methE0 (pl := pl) (pe_var hN hv hd hcd) g2 g3 g4 hr g5 tk h3) hs hf) fun D σ H ⟨ρ, G, s, q⟩ => runM_of g1 hw (fun _ _ _ h => tNil_of h) s q fun t v H1 G1 ρ1 s1 it p1 => p1 _ H1 G1 (s1.setSh it) (Ex.refl _)
end

/-! ### a method that only reads -/
def spDR (C : KM) (w : World) (md : Md) (g : D → Res T) : Sp := fun vs H Q _ => ∃ d a F G, vs = [.ref a] ∧ Ex G H ∧ Dv C w H G d (.ref a) F ∧ F.Nodup ∧ (∀ x ∈ F, G x = none) ∧ match g d with
  | .ok t => ∀ v H' G', Gr H G H' G' → md.Is C t v H H' G' → Q v H'
  | _ => False
structure OkR (P : Program) (w : World) (K : PySem.W.Frag) (mg : Str → Option Value) (base : Heap) (k : Nat) (c m : Str) (md : Md) (g : D → Res T) : Prop where
  ex : ∃ (Cc f : Addr) (fd : FuncData) (ps : List Str), mg c = some (.ref Cc) ∧ Cls K Cc ∧ Meth K Cc m f ∧ FnOk P w K mg base (L2.CX P w) k f fd ps (spDR ⟨K, mg⟩ w md g) ∧ Binds K fd ps []
def fDefR (m : Nat) (fe : FE) : D → Res T := fun d => fe (frB 0 m [.non] d)
theorem okOR {P : Program} {w : World} {K : PySem.W.Frag} {mg : Str → Option Value} {base : Heap} {c x qual : Str} {st : Stmt} {N ps : List Str} {k : Nat} {md : Md} {fe : FE} {g : D → Res T} {e : Expr} {pos : Pos} (A : AtM K mg c x qual st ps) (S : FnScope N ps (defScope st)) (hn : 1 = ps.length) (hst : defBody st = [.Return (some e) pos]) (hg : g = fDefR N.length fe)
    (hbody : ∀ (f : Addr) (cdv : Value) (A : Around) (outer : List Env) (s : Shared) (H Hm G : Hp) (a : Addr) (E : XK), Room k (A.deeper (envOfC qual (defScope st) s.heap.objs.size f cdv)) →
      DE (cxOf (L2.CX P w) P w K mg base N qual (defScope st) f cdv A outer s H E) ⟨Hm, G, none, .B a, w, [(0, a)]⟩ (fun cls d _ H' => E cls d H') md e fe) :
    OkR P w K mg base (k + 1) c x md g := by
  obtain ⟨Cc, f, fd, g1, g2, g3, F, b⟩ := A.ex
  subst hg
  refine ⟨Cc, f, fd, ps, g1, g2, g3, ?_, b⟩
  refine F.okX S (fun vs H Q E ⟨d, a, F, G, h, _⟩ => by rw [h]; exact hn) (fun cdv A outer s H vs Q E hr h => ?_)
  obtain ⟨d, a, FF, G, rfl, ex, hd, nd, hF, p⟩ := h
  rw [hst]
  have ib : IsB ⟨K, mg⟩ G 0 (.ref a) [.non] [.ref a] := ⟨rfl, rfl, fun k t nk z => by
    cases k with
    | zero => exact (nk rfl).elim
    | succ k => cases z⟩
  have hb := hbody f cdv A outer s H (mask H FF) G a E hr
  unfold DE at hb
  refine ⟨_, pss_one (ps_ret hb), frB 0 N.length [.non] d, G, start_srB ex (by decide) ib hd nd hF, ?_⟩
  unfold fDefR at p
  cases q : fe (frB 0 N.length [.non] d) with
  | ok t => rw [q] at p; exact fun v H' G' g i => p v H' G' g i
  | ex x y => rw [q] at p; exact p.elim
  | bad => rw [q] at p; exact p.elim
def eRd (i : Nat) (c m : Str) (g : D → Res T) : FE := fun ρ => match ρ[i]? with
  | some (.dp (.ob c' ns ds)) => if c' = c ∧ (fGet m ns ds).isNone = true then (match g (.ob c' ns ds) with | .ok t => .ok t | _ => .bad) else .bad
  | _ => .bad
section
variable {X : Cx} {B : BS} {W : WX} {md : Md} {p p1 p2 p3 : Pos} {i k : Nat} {x c m : Str} {g : D → Res T}
theorem d_meR (O : OkR X.prog X.w X.K X.mg X.base k c m md g) (hr : Room k X.A) (tk : Tk X W) (hN : X.N[i]? = some x := by rfl) (hv : Vis X.env.scope x := by first | exact Or.inl rfl | exact Or.inr (Or.inl rfl) | exact Or.inr (Or.inr rfl)) (hd : (x == ("__debug__" : Str)) = false := by decide) (hcd : (x == ("__classdict__" : Str)) = false := by decide)
    (hw : B.w = X.w := by rfl) {pl : Sem Bool} (h3 : eval (.Call (.Attribute (.Name x p1) m p2) [] [] p3) X.env = (do let ov ← eval (.Name x p1) X.env; standAt p2.atName; let (g, first) ← holding [ov] (getMethod ov m pl); callWith p3 g first (backTo p3 (starEach [] X.env)) (backToKw p3 (keywordEach [] X.env))) := by rfl) :
    DE X B W md (.Call (.Attribute (.Name x p1) m p2) [] [] p3) (eRd i c m g) := by
  obtain ⟨Cc, f, fd, ps, g1, g2, g3, g4, g5⟩ := O.ex
  refine PE.imp (pe_methE0 (pl := pl) (pe_var hN hv hd hcd) g2 g3 g4 hr g5 tk h3) fun σ H Q ⟨ρ, G, s, q⟩ => ?_
  unfold eRd at q
  split at q
  rotate_left
  · exact q.elim
  rename_i c' ns ds e0
  split at q
  rotate_left
  · exact q.elim
  rename_i hc
  obtain ⟨rfl, hno⟩ := hc
  obtain ⟨u, F, h1, h2, h3, h4⟩ := s.dpAt e0
  obtain ⟨ad, Cc', dx, vs, F', rfl, k1, k2, k3, k4, k5, rfl⟩ := ob_open h2
  cases (show X.mg c' = some (.ref Cc') from k1).symm.trans g1
  refine ⟨.ref ad, h1, ad, dx, ns.zip vs, rfl, k2, fGet_no (fGet_none hno) k4 k5, _, ad, _, G, rfl, s.exGH, by rw [← hw]; exact h2, h3, fun x mx => (h4 x mx).2, ?_⟩
  split at q
  · rename_i t e1
    exact q
  · exact q.elim
end

/-! ### C(..) -/
structure OkC (P : Program) (w : World) (K : PySem.W.Frag) (mg : Str → Option Value) (base : Heap) (k : Nat) (c : Str) (n : Nat) (g : MirB) : Prop where
  ex : ∃ (Cc f : Addr) (fd : FuncData) (ps : List Str), mg c = some (.ref Cc) ∧ Mk K Cc f ∧ FnOk P w K mg base (L2.CX P w) k f fd ps (spDB ⟨K, mg⟩ w n 0 g) ∧ Binds K fd ps []
structure AtC (K : PySem.W.Frag) (mg : Str → Option Value) (c qual : Str) (st : Stmt) (ps : List Str) : Prop where
  ex : ∃ (Cc f : Addr) (fd : FuncData), mg c = some (.ref Cc) ∧ Mk K Cc f ∧ Fun K "__init__" qual st f fd ∧ Binds K fd ps []
theorem okOC {P : Program} {w : World} {K : PySem.W.Frag} {mg : Str → Option Value} {base : Heap} {c qual : Str} {st : Stmt} {N ps : List Str} {k n : Nat} {fs : FS} {m : MirB} (A : AtC K mg c qual st ps) (S : FnScope N ps (defScope st)) (hn : n = ps.length) (hi : 0 < n) (hm : m = fDefB 0 N.length fs)
    (hbody : ∀ (f : Addr) (cdv : Value) (A : Around) (outer : List Env) (s : Shared) (H Hm G : Hp) (a : Addr) (E : XK), Room k (A.deeper (envOfC qual (defScope st) s.heap.objs.size f cdv)) →
      DSs (cxOf (L2.CX P w) P w K mg base N qual (defScope st) f cdv A outer s H E) ⟨Hm, G, none, .B a, w, [(0, a)]⟩ (fun cls d _ H' => E cls d H') (defBody st) fs) :
    OkC P w K mg base (k + 1) c n m := by
  obtain ⟨Cc, f, fd, g1, g2, F, b⟩ := A.ex
  rw [hm]
  exact ⟨Cc, f, fd, ps, g1, g2, def_okB F S hn hi (hbody f), b⟩
def sMake (i : Nat) (c : Str) (n : Nat) (g : MirB) (fr : FA) : FS := fun ρ => match fr ρ with
  | .ok ts => if ts.length + 1 = n then (match g (.non :: ts) (.ob c [] []) with
    | .ok .non d' => .nx (ρ.set i (.dp d'))
    | _ => .bad) else .bad
  | .ex x p => .ex x p ρ
  | .bad => .bad
theorem passF {X : Cx} : Passes (L2.CX X.prog X.w) X (fun _ _ _ => False) := fun _ _ _ _ _ _ _ c => by
  obtain ⟨a, B, H', cls, d, _, _, _, _, _, _, _, h⟩ := c
  exact h.elim
section
variable {X : Cx} {B : BS} {W : WX} {e : Expr} {es : List Expr} {fr : FA} {p p3 pos' spos : Pos} {i k n : Nat} {y c : Str} {g : MirB}
theorem st_make (O : OkC X.prog X.w X.K X.mg X.base k c n g) (hr : Room (k + 1) X.A) (hg : Gl X c) (ha : DA X B W .E (e :: es) fr) (hn : X.N.Nodup) (hi : X.N[i]? = some y) (hy : Loc X.env.scope y) (hbi : B.bi.all (fun p => p.1 != i) = true := by rfl) (hw : B.w = X.w := by rfl) (hdb : (c == ("__debug__" : Str)) = false := by decide)
    (h1 : starEach (e :: es) X.env = (false, eval e X.env) :: starEach es X.env := by rfl) (h2 : (backTo p3 (starEach es X.env)).any (·.1) = false := by rfl)
    (hs : swapsWith (.Call (.Name c p) (e :: es) [] p3) (some (.Name y pos')) spos.line X.env = pure false := by rfl) (hf : X.fn y = true ∨ X.env.scope.names.lookup y = some .local := by first | exact .inl rfl | exact .inr rfl | assumption) :
    DS X B W (.Assign [.Name y pos'] (.Call (.Name c p) (e :: es) [] p3) spos) (sMake i c n g fr) := by
  obtain ⟨Cc, f, fd, ps, g1, g2, g4, g5⟩ := O.ex
  refine PS.imp (ps_set hn hi hy (pe_make (dvs := []) (ds := []) g2 g4 hr hg g1 g5 .nil passF ha hdb h1 h2) hs hf) fun Dn σ H ⟨ρ, G, s, q⟩ => ⟨ρ, G, s, ?_⟩
  unfold sMake at q
  cases er : fr ρ with
  | ok ts =>
    simp only [er] at q
    split at q
    rotate_left
    · exact q.elim
    rename_i hl
    intro us H1 G1 gr is x dx nx ndx ne
    rw [List.append_nil]
    have s1 := s.ext gr
    have is' : VS.IsL (km X) G1 ts us := is
    have e1 : Ex H1 (upd (upd H1 dx (.own x)) x (.ins Cc dx [])) := (Ex.new ndx).trans (Ex.new (by rw [upd_ne ne.symm]; exact nx))
    have nG : ∀ z ∈ [x, dx], G1 z = none := fun z m => by
      rcases List.mem_cons.mp m with rfl | m
      · exact ex_none s1.exGH nx
      · rw [List.mem_singleton.mp m]; exact ex_none s1.exGH ndx
    have ib : IsB (km X) G1 0 (.ref x) (.non :: ts) (.ref x :: us) := by
      refine ⟨by rw [List.length_cons, List.length_cons, is'.length], rfl, fun k t nk z => ?_⟩
      cases k with
      | zero => exact (nk rfl).elim
      | succ k => exact is'.get z
    have hd : Dv (km X) X.w (upd (upd H1 dx (.own x)) x (.ins Cc dx [])) G1 (.ob c [] []) (.ref x) [x, dx] :=
      ob_close (vs := []) g1 upd_same (by rw [upd_ne ne, upd_same]) rfl (by unfold DvL; exact ⟨rfl, rfl⟩)
    refine ⟨.non :: ts, .ob c [] [], x, [x, dx], G1, s1.exGH.trans e1, ib, by rw [List.length_cons]; exact hl, hd, by simp [ne.symm], nG, ?_⟩
    split at q
    rotate_left
    · exact q.elim
    rename_i d' eg
    rw [eg]
    intro u H2 G2 F2 g3 iu hd2 nd2 hF2
    unfold Is at iu
    have old : ∀ z o, H1 z = some o → mask (upd (upd H1 dx (.own x)) x (.ins Cc dx [])) [x, dx] z = some o := fun z o hz => by
      have n1 : z ≠ x := ne_of_none hz nx
      have n2 : z ≠ dx := ne_of_none hz ndx
      rw [mask_out (by simp [n1, n2]), upd_ne n1, upd_ne n2]
      exact hz
    have g9 : Gr H1 G1 H2 G2 := ⟨fun z o hz => g3.eh z o (old z o hz), g3.eg, g3.gh, fun z o a b => g3.sep z o a (old z o b)⟩
    refine ⟨iu, q _ H2 G2 (s1.setNewDp g9 (by rw [hw]; exact hd2) nd2 (fun z m => ⟨?_, (hF2 z m).2⟩) (fun p mp z => absurd z (by simpa using List.all_eq_true.mp hbi p mp))) (gr.eg.trans g9.eg)⟩
    cases ez : H1 z with
    | none => rfl
    | some o =>
      have := old z o ez
      rw [(hF2 z m).1] at this
      cases this
  | ex y r =>
    simp only [er] at q
    exact fun cls dd H' G' g' ix => q cls dd σ H' G' (s.ext g') g'.eg ix
  | bad =>
    simp only [er] at q
    exact q.elim
end
end VS

/-! a thing of one's own as an answer; an exception that shows something -/
namespace VS
open PySem PySem.Spec PyProof.Rows L2 Evl

/-! ### a def that answers with a thing of one's own -/
def sRetD (i : Nat) : FS := fun ρ => match ρ[i]? with | some (.dp d) => if encOk d then .rt (enc d) else .bad | _ => .bad
section
variable {X : Cx} {B : BS} {W : WX} {pos p2 : Pos}
theorem st_retD (i : Nat) {x : Str} (hN : X.N[i]? = some x := by rfl) (hv : Vis X.env.scope x := by first | exact Or.inl rfl | exact Or.inr (Or.inl rfl) | exact Or.inr (Or.inr rfl)) (hd : (x == ("__debug__" : Str)) = false := by decide)
    (hcd : (x == ("__classdict__" : Str)) = false := by decide) (hm : B.rm = .D := by rfl) : DS X B W (.Return (some (.Name x p2)) pos) (sRetD i) := PS.imp (ps_ret (pe_var hN hv hd hcd)) fun D σ H ⟨ρ, G, s, p⟩ => by
  unfold sRetD at p
  split at p
  · rename_i d e
    split at p
    · rename_i ok
      obtain ⟨v, F, h1, h2, h3, h4⟩ := s.dpAt e
      refine ⟨v, h1, p v H G s.gr ?_⟩
      rw [hm]
      exact ⟨d, F, dec_enc ok, h2, h3, h4⟩
    · exact p.elim
  · exact p.elim
end
def spDD (C : KM) (w : World) (n : Nat) (g : Mir) : Sp := fun vs H Q E => ∃ ts G, Ex G H ∧ IsL C G ts vs ∧ ts.length = n ∧ match g ts with
  | .ok t => ∀ v H' G', Gr H G H' G' → Rm.D.Is C w t v H H' G' → Q v H'
  | .ex x p => ∀ cls d H' G', Gr H G H' G' → XAt C x p cls d G' → E cls d H'
  | .bad => False
structure OkD (P : Program) (w : World) (K : PySem.W.Frag) (mg : Str → Option Value) (base : Heap) (k : Nat) (x : Str) (n : Nat) (m : Mir) : Prop where
  ex : ∃ (f : Addr) (fd : FuncData) (ps : List Str), mg x = some (.ref f) ∧ PySem.W.keepIn K (.ref f) = true ∧ FnOk P w K mg base (L2.CX P w) k f fd ps (spDD ⟨K, mg⟩ w n m) ∧ Binds K fd ps []
theorem okOD {P : Program} {w : World} {K : PySem.W.Frag} {mg : Str → Option Value} {base : Heap} {x : Str} {st : Stmt} {N ps : List Str} {k n : Nat} {fs : FS} {m : Mir} (A : At K mg x st ps) (S : FnScope N ps (defScope st)) (hn : n = ps.length) (hm : m = fDefN N.length fs)
    (hbody : ∀ (f : Addr) (cdv : Value) (A : Around) (outer : List Env) (s : Shared) (H G : Hp) (E : XK), Room k (A.deeper (envOfC x (defScope st) s.heap.objs.size f cdv)) →
      DSs (cxOf (L2.CX P w) P w K mg base N x (defScope st) f cdv A outer s H E) ⟨H, G, none, .D, w, []⟩ (fun cls d _ H' => E cls d H') (defBody st) fs) :
    OkD P w K mg base (k + 1) x n m := by
  obtain ⟨f, fd, g, F, b⟩ := A.ex
  rw [hm]
  refine ⟨f, fd, ps, g, F.kp, ?_, b⟩
  refine F.okX S (fun vs H Q E ⟨ts, G, _, h1, h2, _⟩ => by rw [← h1.length]; exact h2.trans hn) (fun cdv A outer s H vs Q E hr h => ?_)
  obtain ⟨ts, G, ex, is, hl, p⟩ := h
  refine ⟨_, hbody f cdv A outer s H G E hr, _, G, start_sr ex is, ?_⟩
  unfold fDefN at p
  cases q : fs (ts.map Sl.sh ++ List.replicate (N.length - ts.length) Sl.un) with
  | nx ρ => rw [q] at p; exact p.elim
  | rt t => rw [q] at p; exact p
  | bk ρ => rw [q] at p; exact p.elim
  | ct ρ => rw [q] at p; exact p.elim
  | ex x y ρ => rw [q] at p; exact fun cls d σ' H' G' s' _ i => p cls d H' G' s'.gr i
  | bad => rw [q] at p; exact p
def sSetD (i n : Nat) (g : Mir) (fr : FA) : FS := fun ρ => match fr ρ with
  | .ok ts => if ts.length = n then (match g ts with
    | .ok t => (match dec t with | some d => .nx (ρ.set i (.dp d)) | none => .bad)
    | .ex x p => .ex x p ρ
    | .bad => .bad) else .bad
  | .ex x p => .ex x p ρ
  | .bad => .bad
section
variable {X : Cx} {B : BS} {W : WX} {e : Expr} {es : List Expr} {fr : FA} {p p3 pos' spos : Pos} {i k n : Nat} {y x : Str} {g : Mir}
theorem st_setD (O : OkD X.prog X.w X.K X.mg X.base k x n g) (hr : Room k X.A) (hg : Gl X x) (tk : Tk X W) (ha : DA X B W .E (e :: es) fr) (hn : X.N.Nodup) (hi : X.N[i]? = some y) (hy : Loc X.env.scope y) (hbi : B.bi.all (fun p => p.1 != i) = true := by rfl) (hw : B.w = X.w := by rfl) (hdb : (x == ("__debug__" : Str)) = false := by decide)
    (h1 : starEach (e :: es) X.env = (false, eval e X.env) :: starEach es X.env := by rfl) (h2 : (backTo p3 (starEach es X.env)).any (·.1) = false := by rfl)
    (hs : swapsWith (.Call (.Name x p) (e :: es) [] p3) (some (.Name y pos')) spos.line X.env = pure false := by rfl) (hf : X.fn y = true ∨ X.env.scope.names.lookup y = some .local := by first | exact .inl rfl | exact .inr rfl | assumption) :
    DS X B W (.Assign [.Name y pos'] (.Call (.Name x p) (e :: es) [] p3) spos) (sSetD i n g fr) := by
  obtain ⟨f, fd, ps, g1, g2, g4, g5⟩ := O.ex
  refine PS.imp (ps_set hn hi hy (pe_callS g4 hr hg g1 g2 g5 tk ha hdb h1 h2) hs hf) fun Dn σ H ⟨ρ, G, s, q⟩ => ⟨ρ, G, s, ?_⟩
  unfold sSetD at q
  cases er : fr ρ with
  | ok ts =>
    simp only [er] at q
    split at q
    rotate_left
    · exact q.elim
    rename_i hl
    intro us H1 G1 gr is
    have s1 := s.ext gr
    refine ⟨ts, G1, s1.exGH, is, hl, ?_⟩
    split at q
    · rename_i t eg
      split at q
      rotate_left
      · exact q.elim
      rename_i d ed
      intro v H2 G2 g3 iv
      obtain ⟨d', F, e2, hd, nd, hF⟩ := iv
      rw [ed] at e2
      cases e2
      rw [← hw] at hd
      exact q _ H2 G2 (s1.setNewDp g3 hd nd hF (fun p mp z => absurd z (by simpa using List.all_eq_true.mp hbi p mp))) (gr.eg.trans g3.eg)
    · rename_i y r eg
      exact fun cls dd H' G' g' ix => q cls dd σ H' G' (s1.ext g') (gr.eg.trans g'.eg) ix
    · exact q.elim
  | ex y r =>
    simp only [er] at q
    exact fun cls dd H' G' g' ix => q cls dd σ H' G' (s.ext g') g'.eg ix
  | bad =>
    simp only [er] at q
    exact q.elim
end

/-! ### raise X(e), X's own __init__ keeping it as shown -/
def spUI (C : Addr) : Sp := fun vs H Q _ => ∃ a v, vs = [.ref a, v] ∧ H a = some (exo a C none) ∧ ∀ dx, H dx = none → dx ≠ a → Q .non (upd (upd H dx (exd dx [(("shown" : Str), v)])) a (exo a C (some dx)))
structure AtX (K : PySem.W.Frag) (mg : Str → Option Value) (x qual : Str) (st : Stmt) (ps : List Str) : Prop where
  ex : ∃ (C f : Addr) (fd : FuncData), mg x = some (.ref C) ∧ OexC K C ∧ PySem.W.findIn K (.ref C) "__init__" = some (some (.ref f)) ∧ PySem.W.typeIn K (.ref f) = some (.type "function") ∧ PySem.W.findIn K (.ref C) "shown" = some none ∧ Fun K "__init__" qual st f fd ∧ Binds K fd ps []
structure UX (P : Program) (w : World) (K : PySem.W.Frag) (mg : Str → Option Value) (base : Heap) (x : Str) : Prop where
  ex : ∃ (C f : Addr) (fd : FuncData) (ps : List Str), mg x = some (.ref C) ∧ OexC K C ∧ PySem.W.findIn K (.ref C) "__init__" = some (some (.ref f)) ∧ PySem.W.typeIn K (.ref f) = some (.type "function") ∧ FnOk P w K mg base (L2.CX P w) 1 f fd ps (spUI C) ∧ Binds K fd ps []
theorem ux_of {P : Program} {w : World} {K : PySem.W.Frag} {mg : Str → Option Value} {base : Heap} {x qual : Str} {st : Stmt} {p1 p2 p3 pos : Pos} (A : AtX K mg x qual st ["self", "shown"]) (S : FnScope ["self", "shown"] ["self", "shown"] (defScope st)) (hb : defBody st = [.Assign [.Attribute (.Name "self" p1) "shown" p2] (.Name "shown" p3) pos])
    (v1 : Vis (defScope st) "self") (v2 : Vis (defScope st) "shown") : UX P w K mg base x := by
  obtain ⟨C, f, fd, g1, g2, g3, g4, g5, F, b⟩ := A.ex
  refine ⟨C, f, fd, ["self", "shown"], g1, g2, g3, g4, ?_, b⟩
  refine F.okX S (fun vs H Q E ⟨a, v, h, _⟩ => by rw [h]; rfl) (fun cdv A outer s H vs Q E hr h => ?_)
  obtain ⟨a, v, rfl, ha, k⟩ := h
  rw [hb]
  refine ⟨_, pss_one (ps_ost (pe_var (i := 0) rfl v1 (by decide) (by decide)) (pe_var (i := 1) rfl v2 (by decide) (by decide))), ?_⟩
  exact ⟨v, rfl, .ref a, rfl, a, C, rfl, g2, g5, .inl ⟨ha, fun dx h1 h2 => k dx h1 h2⟩⟩
def sRaiseP (x : Str) (fa : FE) : FS := fun ρ => sLift ρ (fa ρ) fun t => .ex x [t] ρ
section
variable {X : Cx} {B : BS} {W : WX} {e : Expr} {fa : FE} {p pos pos2 : Pos} {x : Str}
theorem st_raiseP (U : UX X.prog X.w X.K X.mg X.base x) (hc : X.calm = true) (tk : Takes X W) (hr : Room 2 X.A) (hg : Gl X x) (he : DE X B W .E e fa) (hdb : (x == ("__debug__" : Str)) = false := by decide)
    (h0 : starEach [e] X.env = (false, eval e X.env) :: starEach [] X.env := by rfl) (h1 : (backTo pos (starEach [] X.env)).any (·.1) = false := by rfl) :
    DS X B W (.Raise (some (.Call (.Name x p) [e] [] pos)) none pos2) (sRaiseP x fa) := by
  obtain ⟨C, f, fd, ps, g1, g2, g3, g4, g5, g6⟩ := U.ex
  refine PS.imp (ps_raise hc tk (pmk_oex (ds := []) (dvs := []) g2 g3 g4 g5 hr g6 .nil passF hg g1 (pa_cons he pa_nil h0) hdb h0 h1)) fun D σ H ⟨ρ, G, s, q⟩ => ?_
  refine bindSt (m := .E) s q fun t v H1 G1 gr s1 it p1 => ?_
  refine ⟨by show 1 ≤ 1000; decide, fun a ha => ⟨a, v, rfl, upd_same, fun dx hdx ne => ⟨rfl, dx, [(("shown" : Str), v)], upd_same, by rw [upd_ne ne, upd_same], ?_, ?_⟩⟩⟩
  · rw [upd_ne ne] at hdx
    exact hdx
  · rw [upd_ne ne] at hdx
    have eH : upd (del (upd (upd (upd H1 a (exo a C none)) dx (exd dx [(("shown" : Str), v)])) a (exo a C (some dx))) a) dx (.xd [(("shown" : Str), v)]) = upd H1 dx (.xd [(("shown" : Str), v)]) := by
      funext y
      by_cases z : y = dx
      · rw [z, upd_same, upd_same]
      · rw [upd_ne z, upd_ne z]
        by_cases z2 : y = a
        · rw [z2, del_same, ha]
        · rw [del_ne z2, upd_ne z2, upd_ne z, upd_ne z2]
    rw [eH]
    have g9 : Gr H1 G1 (upd H1 dx (.xd [(("shown" : Str), v)])) (upd G1 dx (.xd [(("shown" : Str), v)])) := Gr.new s1.exGH hdx
    exact p1 (.ref C) (some dx) σ _ _ (s1.ext g9) g9.eg ⟨C, g1, rfl, dx, v, rfl, upd_same, Is.mono g9.eg _ _ it⟩
end
/-! ### e.shown in the suite -/
structure XF (K : PySem.W.Frag) (mg : Str → Option Value) (x : Str) : Prop where
  ex : ∃ C, mg x = some (.ref C) ∧ XfC K C ∧ PySem.W.findIn K (.ref C) "shown" = some none
def eXf (i : Nat) (x : Str) : FE := fun ρ => match ρ[i]? with
  | some (.xn x' [t]) => if x' = x then .ok t else .bad
  | _ => .bad
theorem d_xf {X : Cx} {W0 : WX} {i : Nat} {n x : Str} {a : Addr} {oe : Obj} {cls : Value} {d : Option Addr} {pn : List (Addr × Obj)} {H0 G0 : Hp} {rm : Rm} {w0 : World} {bi : List (Nat × Addr)} {pe pos : Pos} (T : XF X.K X.mg x) (hz : Zc cls d oe) (hf : ∃ vs, oe.data = .fields vs) (hN : X.N[i]? = some n) (hv : Vis X.env.scope n)
    (hd1 : (n == ("__debug__" : Str)) = false := by decide) (hd2 : (n == ("__classdict__" : Str)) = false := by decide) (hb : attributeBase (.Name n pe) "shown" X.env (eval (.Name n pe) X.env) = eval (.Name n pe) X.env := by rfl) :
    DE (X.suite a ((a, oe) :: pn)) ⟨H0, G0, some (a, cls, d), rm, w0, bi⟩ W0 .E (.Attribute (.Name n pe) "shown" pos) (eXf i x) := by
  obtain ⟨C, g1, g2, g3⟩ := T.ex
  refine PE.imp (pe_xf g2 g3 hz hf (pe_var hN hv hd1 hd2) hb) fun σ H Q ⟨ρ, G, s, q⟩ => ?_
  unfold eXf at q
  split at q
  · rename_i x' t e
    split at q
    · rename_i ex
      subst ex
      obtain ⟨a', cls', d', z, q1, D, m1, m2, m3⟩ := s.xn i x' [t] e
      cases z
      obtain ⟨dd, v, rfl, k1, k2⟩ := m3
      cases (show X.mg x' = some (.ref D) from m1).symm.trans g1
      exact ⟨.ref a, q1, rfl, m2, dd, _, v, rfl, s.exGH _ _ k1, by simp [List.lookup], q v H G (Gr.refl s.exGH) k2⟩
    · exact q.elim
  · exact q.elim
end VS

/-! own classes: what the head says of them -/
namespace VS
open PySem PySem.Spec PyProof.Rows L2 Evl

theorem funQ_of {K : PySem.W.Frag} {x q : Str} {st : Stmt} {f : Addr} {fd : FuncData} (F : FunD K x q (defArgs st) (defBody st) (defScope st) [] [] f fd) : Fun K x q st f fd := by
  obtain ⟨⟨oc, od, dV, kV, doc, pm, an, cdv, ct, osl, e, lk, hcd, hD, hK⟩, kp⟩ := F
  rcases hD with ⟨_, rfl⟩ | ⟨z, _⟩
  · exact ⟨⟨oc, od, kV, doc, pm, an, cdv, ct, osl, e, lk, hcd⟩, kp⟩
  · exact absurd rfl z
def oexB (K : PySem.W.Frag) (C : Addr) : Bool := match K.lookup C with
  | some ⟨.type "type", _, .cls cd, sl⟩ => (match cd.mro, sl.toList with
    | .ref D :: bm, [_, _, _, _, some (.builtin n), _] => D == C && (n == "ValueError.__new__" && (!cd.hasDel && (cd.hasDict && PySem.HandSPX.refsVE bm)))
    | _, _ => false)
  | _ => false
/-- what the head looks at, of exception classes with an own __init__ that keeps what is shown -/
inductive Xb where
  | oex (x : Str)
  | xf (x : Str)
def Xb.ok (K : PySem.W.Frag) : Xb → Bool
  | .oex x => oexB K (He.ga K x) && (He.eqO (PySem.W.findIn K (.ref (He.ga K x)) "__setattr__") (some (some (.builtin "object.__setattr__"))) && (dO (PySem.W.subIn K (.ref (He.ga K x)) (.type "BaseException")) (some true) && (decide (PySem.W.typeIn K (.ref (He.ga K x)) = some (.type "type")) && (PySem.W.keepIn K (.ref (He.ga K x)) &&
      (He.eqO (PySem.W.findIn K (.ref (He.ga K x)) "__init__") (some (some (.ref (He.ma K (He.ga K x) "__init__")))) && (decide (PySem.W.typeIn K (.ref (He.ma K (He.ga K x) "__init__")) = some (.type "function")) && He.eqO (PySem.W.findIn K (.ref (He.ga K x)) "shown") (some none)))))))
  | .xf x => xfB K (He.ga K x) && He.eqO (PySem.W.findIn K (.ref (He.ga K x)) "shown") (some none)
def exAB (xs : List Xa) (bs : List Xb) (K : PySem.W.Frag) : Bool := exAll xs K && bs.all fun x => x.ok K
theorem exA_at {xs : List Xa} {bs : List Xb} {K : PySem.W.Frag} (h : exAB xs bs K = true) (i : Nat) (x : Xa) (m : xs[i]? = some x) : x.ok K = true := ex_at (He.ba h).1 i x m
theorem exB_at {xs : List Xa} {bs : List Xb} {K : PySem.W.Frag} (h : exAB xs bs K = true) (i : Nat) (x : Xb) (m : bs[i]? = some x) : x.ok K = true := List.all_eq_true.mp (He.ba h).2 x (List.mem_of_getElem? m)
section
variable {K : PySem.W.Frag} {h : Heap} {mg : Str → Option Value} {c m x qual : Str} {st : Stmt} {ps fs : List Str}
theorem oexB_ok {C : Addr} (q : oexB K C = true) : ∃ nm q N bs bm sn sub ab col dd k0 k1 k2 k3 k5, K.lookup C = some (excClassObj nm q C N bs bm true sn sub ab col dd k0 k1 k2 k3 k5 "ValueError.__new__") ∧ PySem.HandSPX.refsVE bm = true := by
  unfold oexB at q
  split at q
  · rename_i dd cd sl ho
    split at q
    · rename_i D bm k0 k1 k2 k3 n k5 hm hs
      simp only [Bool.and_eq_true, beq_iff_eq, Bool.not_eq_true'] at q
      obtain ⟨rfl, rfl, hdel, hdc, hr⟩ := q
      obtain ⟨nm, bs, mro, ns, qn, hd, sn, sub, ab, col, del⟩ := cd
      dsimp only at hm hdel hdc
      subst hm hdel hdc
      have hsl : sl = #[k0, k1, k2, k3, some (.builtin "ValueError.__new__"), k5] := by
        obtain ⟨l⟩ := sl
        simp only at hs
        rw [hs]
      subst hsl
      exact ⟨nm, qn, ns, bs, bm, sn, sub, ab, col, dd, k0, k1, k2, k3, k5, ho, hr⟩
    · cases q
  · cases q
theorem clo_of (X : K.In h) (G : h.Ns mainGlobals mg) (h1 : (He.Fa.glo c).ok K = true) (h2 : (He.Fa.cls c).ok K = true) (h3 : ∀ f ∈ fs, (He.Fa.noat c f).ok K = true) : ClO K mg c fs :=
  ⟨_, He.glo_ok X G h1, He.cls_ok h2, fun f m => He.noat_ok (h3 f m)⟩
theorem atm_of (X : K.In h) (G : h.Ns mainGlobals mg) (h1 : (He.Fa.glo c).ok K = true) (h2 : (He.Fa.cls c).ok K = true) (h3 : (He.Fa.meth c m).ok K = true) (hd : ∃ fd, FunD K m qual (defArgs st) (defBody st) (defScope st) [] [] (He.ma K (He.ga K c) m) fd)
    (hb : ∀ (kV doc pm : Value) (an : Option Addr) (cdv ct : Value) (us : List Value), us.length = ps.length → bindArgs (PySem.W.fnOf m qual (defArgs st) (defBody st) (defScope st) .none kV doc pm an cdv ct) ⟨us, []⟩ = pure (ps.zip us)) : AtM K mg c m qual st ps := by
  obtain ⟨fd, F⟩ := hd
  exact ⟨_, _, fd, He.glo_ok X G h1, He.cls_ok h2, He.meth_ok h3, funQ_of F, (funQ_of F).binds hb⟩
theorem atc_of (X : K.In h) (G : h.Ns mainGlobals mg) (h1 : (He.Fa.glo c).ok K = true) (h2 : (He.Fa.mkr c).ok K = true) (hd : ∃ fd, FunD K "__init__" qual (defArgs st) (defBody st) (defScope st) [] [] (He.ma K (He.ga K c) "__init__") fd)
    (hb : ∀ (kV doc pm : Value) (an : Option Addr) (cdv ct : Value) (us : List Value), us.length = ps.length → bindArgs (PySem.W.fnOf "__init__" qual (defArgs st) (defBody st) (defScope st) .none kV doc pm an cdv ct) ⟨us, []⟩ = pure (ps.zip us)) : AtC K mg c qual st ps := by
  obtain ⟨fd, F⟩ := hd
  exact ⟨_, _, fd, He.glo_ok X G h1, He.mkr_ok h2, funQ_of F, (funQ_of F).binds hb⟩
theorem atx_of (X : K.In h) (G : h.Ns mainGlobals mg) (h1 : (He.Fa.glo x).ok K = true) (h2 : (Xb.oex x).ok K = true) (hd : ∃ fd, FunD K "__init__" qual (defArgs st) (defBody st) (defScope st) [] [] (He.ma K (He.ga K x) "__init__") fd)
    (hb : ∀ (kV doc pm : Value) (an : Option Addr) (cdv ct : Value) (us : List Value), us.length = ps.length → bindArgs (PySem.W.fnOf "__init__" qual (defArgs st) (defBody st) (defScope st) .none kV doc pm an cdv ct) ⟨us, []⟩ = pure (ps.zip us)) : AtX K mg x qual st ps := by
  obtain ⟨fd, F⟩ := hd
  obtain ⟨c1, c⟩ := He.ba h2
  obtain ⟨c2, c⟩ := He.ba c
  obtain ⟨c3, c⟩ := He.ba c
  obtain ⟨c4, c⟩ := He.ba c
  obtain ⟨c5, c⟩ := He.ba c
  obtain ⟨c6, c⟩ := He.ba c
  obtain ⟨c7, c8⟩ := He.ba c
  exact ⟨_, _, fd, He.glo_ok X G h1, ⟨oexB_ok c1, He.eqO_ok c2, of_decide_eq_true c3, of_decide_eq_true c4, c5⟩, He.eqO_ok c6, of_decide_eq_true c7, He.eqO_ok c8, funQ_of F, (funQ_of F).binds hb⟩
theorem xf_of (X : K.In h) (G : h.Ns mainGlobals mg) (h1 : (He.Fa.glo x).ok K = true) (h2 : (Xb.xf x).ok K = true) : XF K mg x := by
  obtain ⟨c1, c2⟩ := He.ba h2
  exact ⟨_, He.glo_ok X G h1, xfB_ok c1, He.eqO_ok c2⟩
end
end VS

/-! a def that is lent something, called in a test -/
namespace VS
open PySem PySem.Spec PyProof.Rows L2 Evl

/-- if f(..) is not None: .. -/
def sIfB (j n : Nat) (g : MirB) (fr : FA) (f1 f2 : FS) : FS := runB j n g fr fun t ρ => match gNotN' t .non with
  | some (.bl true) => f1 ρ
  | some (.bl false) => f2 ρ
  | _ => .bad
section
variable {X : Cx} {B : BS} {W : WX} {e : Expr} {es : List Expr} {fr : FA} {f1 f2 : FS} {b1 b2 : List Stmt} {pos p pc pos' pn : Pos} {i j k n jn : Nat} {x : Str} {g : MirB}
theorem st_ifB (O : OkB X.prog X.w X.K X.mg X.base k x n i g) (hr : Room k X.A) (hg : Gl X x) (tk : Tk X W) (ha : DAB X B W i j (e :: es) fr) (h1 : DSs X B W b1 f1) (h2 : DSs X B W b2 f2) (hin : i < n := by decide) (hdb : (x == ("__debug__" : Str)) = false := by decide)
    (he : starEach (e :: es) X.env = (false, eval e X.env) :: starEach es X.env := by rfl) (hpl : (backTo pos (starEach es X.env)).any (·.1) = false := by rfl) (hw : B.w = X.w := by rfl) (hm : behindInMarks .IsNot (.Constant .none jn pn) = false := by rfl) :
    DS X B W (.If (.Compare (.Call (.Name x p) (e :: es) [] pos) [.IsNot] [.Constant .none jn pn] pc) b1 b2 pos') (sIfB j n g fr f1 f2) := by
  obtain ⟨f, fd, ps, g1, g2, g3, g4⟩ := O.ex
  refine PS.imp (ps_if (pt_cmpR o_notN (pe_callS g3 hr hg g1 g2 g4 tk ha hdb he hpl) pe_non hm) h1 h2) fun D σ H ⟨ρ, G, s, q⟩ => ?_
  refine runB_of hw s q (fun t v H1 G1 ρ1 s1 it p1 => ?_) hin
  cases e1 : gNotN' t .non with
  | none => simp only [e1] at p1; exact p1.elim
  | some y =>
    cases y with
    | bl b =>
      refine ⟨t, .non, G1, .bl b, s1.exGH, .inl it, .inl Is.nonI, e1, fun z H2 G2 gr iz => ?_⟩
      have iz' : VS.Is (km X) G2 (.bl b) z := iz
      unfold Is at iz'
      refine ⟨b, iz', ?_⟩
      cases b with
      | true =>
        simp only [e1] at p1
        exact iteT ⟨ρ1, G2, s1.ext gr, p1.mono gr.eg⟩
      | false =>
        simp only [e1] at p1
        exact iteF ⟨ρ1, G2, s1.ext gr, p1.mono gr.eg⟩
    | _ => simp only [e1] at p1; exact p1.elim
end
end VS

namespace K11
open PySem PySem.Spec PyProof.Rows L2 Evl VS
abbrev P0 : Program := PySem.Challenge.pw_liveswap_k11_whole_safe_ones_come
def topS (i : Nat) : Stmt := P0.main.body.getD i (.Pass ⟨0, 0, 0, 0⟩)
def tbl_PARTS : List (Str × T) := [("put", (.tup [(.str "box"), (.str "number")])), ("more", (.tup [(.str "box")])), ("copy", (.tup [(.str "box"), (.str "box")])), ("tell", (.tup [(.str "box")])), ("go", (.tup [(.str "row")])), ("ask", (.tup [(.str "box"), (.str "row")])), ("stop", (.tup []))]
def miss_PARTS : List Str := []
def tr0_law_shown : Str → Option Bool := fun x => if x = "Unsafe" then some true else none
structure Tx (w : World) (K : PySem.W.Frag) (mg : Str → Option Value) : Prop where
  n_all : mg "all" = none
  n_any : mg "any" = none
  n_enumerate : mg "enumerate" = none
  n_int : mg "int" = none
  n_len : mg "len" = none
  n_list : mg "list" = none
  n_range : mg "range" = none
  n_str : mg "str" = none
  n_tuple : mg "tuple" = none
  n_type : mg "type" = none
  i_MOST_BOXES : ∃ t, mg "MOST_BOXES" = some (.int 3 t)
  i_HIGHEST_MOST : ∃ t, mg "HIGHEST_MOST" = some (.int 4 t)
  i_MOST_ROWS : ∃ t, mg "MOST_ROWS" = some (.int 20 t)
  i_MOST_PLACES : ∃ t, mg "MOST_PLACES" = some (.int 20 t)
  g_PARTS : GD ⟨K, mg⟩ w "PARTS" tbl_PARTS miss_PARTS
  r_BadPlaces : XC K mg "BadPlaces"
  r_BadProgram : XC K mg "BadProgram"
  r_BadState : XC K mg "BadState"
  r_Busy : XC K mg "Busy"
  r_Over : XC K mg "Over"
  x_Unsafe : CL mg "Unsafe"
  k_Live : ClO K mg "Live" ["_program", "_state", "_said", "_changed", "_second", "_there"]
  v_Unsafe : XF K mg "Unsafe"
  e_tr0_law_shown : ∀ Dc, mg "Unsafe" = some (.ref Dc) → ∀ y b D, tr0_law_shown y = some b → mg y = some (.ref D) → PySem.W.exmOne K (.ref D) (.ref Dc) = some b
section
variable {w : World} {K : PySem.W.Frag} {mg : Str → Option Value} {base : Heap}
/-! ### Live_changed -/
abbrev s_Live_changed : Stmt := inClass (topS 42) 9
def f_Live_changed : FE := (eFd 0 "Live" "_changed")
def g_Live_changed : D → Res T := fDefR 1 f_Live_changed
theorem sc_Live_changed : FnScope ["self"] ["self"] (defScope s_Live_changed) := ⟨rfl, rfl, rfl, by decide +kernel, rfl, by decide +kernel, by decide +kernel⟩
theorem ok_Live_changed (T : Tx w K mg) (A : AtM K mg "Live" "changed" "Live.changed" s_Live_changed ["self"]) : OkR P0 w K mg base 1 "Live" "changed" .E g_Live_changed :=
  okOR (N := ["self"]) (fe := f_Live_changed) A sc_Live_changed rfl rfl rfl fun f cdv A outer s H Hm G a E hr =>
    (d_fd (i := 0) T.k_Live)
/-! ### Live__wait_for_none -/
abbrev s_Live__wait_for_none : Stmt := inClass (topS 42) 4
def b_Live__wait_for_none : FS := (sSeq (sFd 0 "Live" "_second" (eC .non))
  (sFd 0 "Live" "_there" (eC .non)))
def m_Live__wait_for_none : MirB := fDefB 0 1 b_Live__wait_for_none
theorem sc_Live__wait_for_none : FnScope ["self"] ["self"] (defScope s_Live__wait_for_none) := ⟨rfl, rfl, rfl, by decide +kernel, rfl, by decide +kernel, by decide +kernel⟩
theorem ok_Live__wait_for_none (T : Tx w K mg) (A : AtM K mg "Live" "_wait_for_none" "Live._wait_for_none" s_Live__wait_for_none ["self"]) : OkM P0 w K mg base 1 "Live" "_wait_for_none" 1 m_Live__wait_for_none :=
  okOM (N := ["self"]) (fs := b_Live__wait_for_none) A sc_Live__wait_for_none rfl (by decide) rfl fun f cdv A outer s H Hm G a E hr =>
    (ss_cons (st_fd (i := 0) T.k_Live d_non)
    (ss_one (st_fd (i := 0) T.k_Live d_non)))
/-! ### Live_waits -/
abbrev s_Live_waits : Stmt := inClass (topS 42) 8
def f_Live_waits : FE := (eB gNotN' (eFdS 0 "Live" "_there") (eC .non))
def g_Live_waits : D → Res T := fDefR 1 f_Live_waits
theorem sc_Live_waits : FnScope ["self"] ["self"] (defScope s_Live_waits) := ⟨rfl, rfl, rfl, by decide +kernel, rfl, by decide +kernel, by decide +kernel⟩
theorem ok_Live_waits (T : Tx w K mg) (A : AtM K mg "Live" "waits" "Live.waits" s_Live_waits ["self"]) : OkR P0 w K mg base 1 "Live" "waits" .E g_Live_waits :=
  okOR (N := ["self"]) (fe := f_Live_waits) A sc_Live_waits rfl rfl rfl fun f cdv A outer s H Hm G a E hr =>
    (d_cmp o_notN (d_fdS (i := 0) T.k_Live) (d_S d_non) (nomark _))
/-! ### worth -/
abbrev s_worth : Stmt := topS 32
def b_worth : FS := (sSeq (sIf (eB gEq (eB gIx (eW 0) (eC (.int 0))) (eC (.str "is"))) (sRet (eB gIx (eW 0) (eC (.int 1)))) sNx)
  (sSeq (sAsg (.tp [2, 3, 4]) (eV 0))
  (sRet (eB gIx (eW 4) (eB gIx (eW 1) (eW 3))))))
def m_worth : Mir := fDef 5 b_worth
theorem sc_worth : FnScope ["rule", "numbers", "_", "box", "worths"] ["rule", "numbers"] (defScope s_worth) := ⟨rfl, rfl, rfl, by decide +kernel, rfl, by decide +kernel, by decide +kernel⟩
theorem ok_worth (T : Tx w K mg) (A : At K mg "worth" s_worth ["rule", "numbers"]) : Ok P0 w K mg base 1 "worth" 2 m_worth :=
  okO (N := ["rule", "numbers", "_", "box", "worths"]) (fs := b_worth) A sc_worth rfl rfl fun f cdv A outer s H G E hr =>
    (ss_cons (st_if (t_cmp (o_eq hr.units) (d_S (d_ix (d_w 0) (d_S d_int))) (d_S d_str) (nomark _)) (ss_one (st_ret (d_ix (d_w 0) (d_S d_int)))) ss_nil)
    (ss_cons (st_asg (d_v 0) (pg_tup rfl (pgs_cons (pg_name (i := 2) sc_worth.nd rfl (by first | exact Or.inl rfl | exact Or.inr rfl)) (pgs_cons (pg_name (i := 3) sc_worth.nd rfl (by first | exact Or.inl rfl | exact Or.inr rfl)) (pgs_cons (pg_name (i := 4) sc_worth.nd rfl (by first | exact Or.inl rfl | exact Or.inr rfl)) pgs_nil)))))
    (ss_one (st_ret (d_ix (d_w 4) (d_S (d_ix (d_w 1) (d_w 3))))))))
/-! ### turned -/
abbrev s_turned : Stmt := topS 33
def b_turned : FS := (sSeq (sNew 2 (eComp (iIt (eV 0)) (.nm 3) [3] (eC (.bl true)) (eCall 2 m_worth (aCons (eV 3) (aCons (eV 1) aNil)))))
  (sSeq (sIf (eB (gIn false) (eC .non) (eW 2)) (sRet (eC .non)) sNx)
  (sRet (eU gTuple (eW 2)))))
def m_turned : Mir := fDef 4 b_turned
theorem sc_turned : FnScope ["rules", "numbers", "found", "rule"] ["rules", "numbers"] (defScope s_turned) := ⟨rfl, rfl, rfl, by decide +kernel, rfl, by decide +kernel, by decide +kernel⟩
theorem ok_turned (T : Tx w K mg) (A : At K mg "turned" s_turned ["rules", "numbers"]) (O_worth : Ok P0 w K mg base 1 "worth" 2 m_worth) : Ok P0 w K mg base 2 "turned" 2 m_turned :=
  okO (N := ["rules", "numbers", "found", "rule"]) (fs := b_turned) A sc_turned rfl rfl fun f cdv A outer s H G E hr =>
    (ss_cons (st_newLc (own := [("rule", 3)]) (i := 2) rfl sc_turned.nd rfl rfl (sw_true rfl rfl rfl (by decide +kernel)) (i_seq (d_v 0)) (blkOk_by (own := [("rule", 3)]) (N := ["rules", "numbers", "found", "rule"]) (sc := defScope s_turned) (by decide +kernel)) (by decide) (fun _ _ _ _ _ => (asDG (.nm 3) (pg_name (i := 3) sc_turned.nd rfl (by first | exact Or.inl rfl | exact Or.inr rfl)))) (fun _ _ _ _ _ => ts_nil) (fun _ _ _ _ _ => (d_callO O_worth (hr.mono (by decide)) (by rfl) tk0 (a_consE (d_v 3) (a_consE (d_v 1) a_nil)))))
    (ss_cons (st_if (t_cmp o_in (d_S d_non) (d_w 2) (by rfl)) (ss_one (st_ret d_non)) ss_nil)
    (ss_one (st_ret (d_cT c_tuple (by rfl) T.n_tuple (by decide +kernel) (d_w 2))))))
/-! ### Live__settle -/
abbrev s_Live__settle : Stmt := inClass (topS 42) 3
def b_Live__settle : FS := (sIf (eB gIsN' (eFdS 0 "Live" "_state") (eC .non)) (sExpM 0 "Live" "_wait_for_none" 1 m_Live__wait_for_none aNil) (sIf (eAnd (eRd 0 "Live" "waits" g_Live_waits) (eB (gDIn false) (eB gIx (eFdS 0 "Live" "_state") (eC (.int 0))) (eFdS 0 "Live" "_there"))) (sSeq (sAsg (.tp [1, 2]) (eFd 0 "Live" "_state"))
  (sSeq (sAsg (.tp [3, 4, 5]) (eB gDGet (eFdS 0 "Live" "_there") (eW 1)))
  (sSeq (sFd 0 "Live" "_program" (eFd 0 "Live" "_second"))
  (sSeq (sFd 0 "Live" "_state" (eTup (aCons (eV 4) (aCons (eCall 2 m_turned (aCons (eV 5) (aCons (eV 2) aNil))) aNil))))
  (sSeq (sFdAdd 0 "Live" "_changed" (eC (.int 1)))
  (sExpM 0 "Live" "_wait_for_none" 1 m_Live__wait_for_none aNil)))))) sNx))
def m_Live__settle : MirB := fDefB 0 6 b_Live__settle
theorem sc_Live__settle : FnScope ["self", "row", "numbers", "_", "other", "rules"] ["self"] (defScope s_Live__settle) := ⟨rfl, rfl, rfl, by decide +kernel, rfl, by decide +kernel, by decide +kernel⟩
theorem ok_Live__settle (T : Tx w K mg) (A : AtM K mg "Live" "_settle" "Live._settle" s_Live__settle ["self"]) (O_Live__wait_for_none : OkM P0 w K mg base 1 "Live" "_wait_for_none" 1 m_Live__wait_for_none) (O_Live_waits : OkR P0 w K mg base 1 "Live" "waits" .E g_Live_waits) (O_turned : Ok P0 w K mg base 2 "turned" 2 m_turned) : OkM P0 w K mg base 3 "Live" "_settle" 1 m_Live__settle :=
  okOM (N := ["self", "row", "numbers", "_", "other", "rules"]) (fs := b_Live__settle) A sc_Live__settle rfl (by decide) rfl fun f cdv A outer s H Hm G a E hr =>
    (ss_one (st_if (t_cmp o_isN (d_fdS (i := 0) T.k_Live) (d_S d_non) (nomark _)) (ss_one (st_expM0 (j := 0) O_Live__wait_for_none (hr.mono (by decide)) (tk_of (takes_of rfl rfl rfl rfl)))) (ss_one (st_if (t_w (w_and (t_val (d_meR (i := 0) O_Live_waits (hr.mono (by decide)) (tk_of (takes_of rfl rfl rfl rfl)))) (w_and1 (t_cmp (o_dIn hr.units) (d_S (d_ix (d_fdS (i := 0) T.k_Live) (d_S d_int))) (d_fdS (i := 0) T.k_Live) (by rfl))))) (ss_cons (st_asg (d_fd (i := 0) T.k_Live) (pg_tup rfl (pgs_cons (pg_name (i := 1) sc_Live__settle.nd rfl (by first | exact Or.inl rfl | exact Or.inr rfl)) (pgs_cons (pg_name (i := 2) sc_Live__settle.nd rfl (by first | exact Or.inl rfl | exact Or.inr rfl)) pgs_nil))))
    (ss_cons (st_asg (d_dget (hu_of hr) (d_fdS (i := 0) T.k_Live) (d_w 1)) (pg_tup rfl (pgs_cons (pg_name (i := 3) sc_Live__settle.nd rfl (by first | exact Or.inl rfl | exact Or.inr rfl)) (pgs_cons (pg_name (i := 4) sc_Live__settle.nd rfl (by first | exact Or.inl rfl | exact Or.inr rfl)) (pgs_cons (pg_name (i := 5) sc_Live__settle.nd rfl (by first | exact Or.inl rfl | exact Or.inr rfl)) pgs_nil)))))
    (ss_cons (st_fd (i := 0) T.k_Live (d_fd (i := 0) T.k_Live))
    (ss_cons (st_fd (i := 0) T.k_Live (d_tup (a_consE (d_v 4) (a_consE (d_callO O_turned (hr.mono (by decide)) (by rfl) (tk_of (takes_of rfl rfl rfl rfl)) (a_consE (d_v 5) (a_consE (d_v 2) a_nil))) a_nil))))
    (ss_cons (st_fdAdd (i := 0) T.k_Live d_int)
    (ss_one (st_expM0 (j := 0) O_Live__wait_for_none (hr.mono (by decide)) (tk_of (takes_of rfl rfl rfl rfl))))))))) ss_nil))))
/-! ### replaced -/
abbrev s_replaced : Stmt := topS 22
def b_replaced : FS := (sRet (eB gAdd (eB gAdd (eSl (eW 0) oNone (oSome (eV 1))) (eTup (aCons (eV 2) aNil))) (eSl (eW 0) (oSome (eB gAdd (eW 1) (eC (.int 1)))) oNone)))
def m_replaced : Mir := fDef 3 b_replaced
theorem sc_replaced : FnScope ["numbers", "box", "number"] ["numbers", "box", "number"] (defScope s_replaced) := ⟨rfl, rfl, rfl, by decide +kernel, rfl, by decide +kernel, by decide +kernel⟩
theorem ok_replaced (T : Tx w K mg) (A : At K mg "replaced" s_replaced ["numbers", "box", "number"]) : Ok P0 w K mg base 1 "replaced" 3 m_replaced :=
  okO (N := ["numbers", "box", "number"]) (fs := b_replaced) A sc_replaced rfl rfl fun f cdv A outer s H G E hr =>
    (ss_one (st_ret (d_op o_add (d_S (d_op o_add (d_S (d_sl (d_w 0) o_none (o_some (d_v 1)))) (d_S (d_tup (a_consE (d_v 2) a_nil))))) (d_S (d_sl (d_w 0) (o_some (d_op o_add (d_w 1) (d_S d_int))) o_none)))))
/-! ### written -/
abbrev s_written : Stmt := topS 21
def b_written : FS := (sSeq (sIf (eB gEq (eB gIx (eW 1) (eC (.int 0))) (eC (.str "put"))) (sRet (eB gIx (eW 1) (eC (.int 2)))) sNx)
  (sSeq (sIf (eB gEq (eB gIx (eW 1) (eC (.int 0))) (eC (.str "copy"))) (sRet (eB gIx (eW 2) (eB gIx (eW 1) (eC (.int 2))))) sNx)
  (sSeq (sSet 3 (eB gIx (eW 2) (eB gIx (eW 1) (eC (.int 1)))))
  (sRet (eIf (eB gEq (eW 3) (eW 0)) (eC (.int 0)) (eB gAdd (eW 3) (eC (.int 1))))))))
def m_written : Mir := fDef 4 b_written
theorem sc_written : FnScope ["most", "row", "numbers", "number"] ["most", "row", "numbers"] (defScope s_written) := ⟨rfl, rfl, rfl, by decide +kernel, rfl, by decide +kernel, by decide +kernel⟩
theorem ok_written (T : Tx w K mg) (A : At K mg "written" s_written ["most", "row", "numbers"]) : Ok P0 w K mg base 1 "written" 3 m_written :=
  okO (N := ["most", "row", "numbers", "number"]) (fs := b_written) A sc_written rfl rfl fun f cdv A outer s H G E hr =>
    (ss_cons (st_if (t_cmp (o_eq hr.units) (d_S (d_ix (d_w 1) (d_S d_int))) (d_S d_str) (nomark _)) (ss_one (st_ret (d_ix (d_w 1) (d_S d_int)))) ss_nil)
    (ss_cons (st_if (t_cmp (o_eq hr.units) (d_S (d_ix (d_w 1) (d_S d_int))) (d_S d_str) (nomark _)) (ss_one (st_ret (d_ix (d_w 2) (d_S (d_ix (d_w 1) (d_S d_int)))))) ss_nil)
    (ss_cons (st_set (i := 3) sc_written.nd rfl (by first | exact Or.inl rfl | exact Or.inr rfl) (d_ix (d_w 2) (d_S (d_ix (d_w 1) (d_S d_int)))))
    (ss_one (st_ret (d_if (t_cmp (o_eq hr.units) (d_w 3) (d_w 0) (nomark _)) d_int (d_op o_add (d_w 3) (d_S d_int))))))))
/-! ### stepped -/
abbrev s_stepped : Stmt := topS 23
def b_stepped : FS := (sSeq (sAsg (.tp [2, 3, 4]) (eV 0))
  (sSeq (sAsg (.tp [5, 6]) (eV 1))
  (sSeq (sSet 7 (eB gIx (eW 4) (eW 5)))
  (sSeq (sSet 8 (eB gIx (eW 7) (eC (.int 0))))
  (sSeq (sIf (eB gEq (eW 8) (eC (.str "stop"))) (sRet (eTup (aCons (eC .non) (aCons (eC .non) aNil)))) sNx)
  (sSeq (sIf (eB gEq (eW 8) (eC (.str "go"))) (sRet (eTup (aCons (eTup (aCons (eB gIx (eW 7) (eC (.int 1))) (aCons (eV 6) aNil))) (aCons (eC .non) aNil)))) sNx)
  (sSeq (sIf (eB gEq (eW 8) (eC (.str "ask"))) (sRet (eTup (aCons (eTup (aCons (eIf (eB gEq (eB gIx (eW 6) (eB gIx (eW 7) (eC (.int 1)))) (eC (.int 0))) (eB gIx (eW 7) (eC (.int 2))) (eB gAdd (eW 5) (eC (.int 1)))) (aCons (eV 6) aNil))) (aCons (eC .non) aNil)))) sNx)
  (sSeq (sIf (eB gEq (eW 8) (eC (.str "tell"))) (sRet (eTup (aCons (eTup (aCons (eB gAdd (eW 5) (eC (.int 1))) (aCons (eV 6) aNil))) (aCons (eB gIx (eW 6) (eB gIx (eW 7) (eC (.int 1)))) aNil)))) sNx)
  (sRet (eTup (aCons (eTup (aCons (eB gAdd (eW 5) (eC (.int 1))) (aCons (eCall 3 m_replaced (aCons (eV 6) (aCons (eB gIx (eW 7) (eC (.int 1))) (aCons (eCall 3 m_written (aCons (eV 3) (aCons (eV 7) (aCons (eV 6) aNil)))) aNil)))) aNil))) (aCons (eC .non) aNil))))))))))))
def m_stepped : Mir := fDef 9 b_stepped
theorem sc_stepped : FnScope ["program", "state", "_", "most", "rows", "at", "numbers", "row", "kind"] ["program", "state"] (defScope s_stepped) := ⟨rfl, rfl, rfl, by decide +kernel, rfl, by decide +kernel, by decide +kernel⟩
theorem ok_stepped (T : Tx w K mg) (A : At K mg "stepped" s_stepped ["program", "state"]) (O_replaced : Ok P0 w K mg base 1 "replaced" 3 m_replaced) (O_written : Ok P0 w K mg base 1 "written" 3 m_written) : Ok P0 w K mg base 2 "stepped" 2 m_stepped :=
  okO (N := ["program", "state", "_", "most", "rows", "at", "numbers", "row", "kind"]) (fs := b_stepped) A sc_stepped rfl rfl fun f cdv A outer s H G E hr =>
    (ss_cons (st_asg (d_v 0) (pg_tup rfl (pgs_cons (pg_name (i := 2) sc_stepped.nd rfl (by first | exact Or.inl rfl | exact Or.inr rfl)) (pgs_cons (pg_name (i := 3) sc_stepped.nd rfl (by first | exact Or.inl rfl | exact Or.inr rfl)) (pgs_cons (pg_name (i := 4) sc_stepped.nd rfl (by first | exact Or.inl rfl | exact Or.inr rfl)) pgs_nil)))))
    (ss_cons (st_asg (d_v 1) (pg_tup rfl (pgs_cons (pg_name (i := 5) sc_stepped.nd rfl (by first | exact Or.inl rfl | exact Or.inr rfl)) (pgs_cons (pg_name (i := 6) sc_stepped.nd rfl (by first | exact Or.inl rfl | exact Or.inr rfl)) pgs_nil))))
    (ss_cons (st_set (i := 7) sc_stepped.nd rfl (by first | exact Or.inl rfl | exact Or.inr rfl) (d_ix (d_w 4) (d_w 5)))
    (ss_cons (st_set (i := 8) sc_stepped.nd rfl (by first | exact Or.inl rfl | exact Or.inr rfl) (d_ix (d_w 7) (d_S d_int)))
    (ss_cons (st_if (t_cmp (o_eq hr.units) (d_w 8) (d_S d_str) (nomark _)) (ss_one (st_ret (d_tup (a_consE d_non (a_consE d_non a_nil))))) ss_nil)
    (ss_cons (st_if (t_cmp (o_eq hr.units) (d_w 8) (d_S d_str) (nomark _)) (ss_one (st_ret (d_tup (a_consE (d_tup (a_consE (d_ix (d_w 7) (d_S d_int)) (a_consE (d_v 6) a_nil))) (a_consE d_non a_nil))))) ss_nil)
    (ss_cons (st_if (t_cmp (o_eq hr.units) (d_w 8) (d_S d_str) (nomark _)) (ss_one (st_ret (d_tup (a_consE (d_tup (a_consE (d_if (t_cmp (o_eq hr.units) (d_S (d_ix (d_w 6) (d_S (d_ix (d_w 7) (d_S d_int))))) (d_S d_int) (nomark _)) (d_ix (d_w 7) (d_S d_int)) (d_op o_add (d_w 5) (d_S d_int))) (a_consE (d_v 6) a_nil))) (a_consE d_non a_nil))))) ss_nil)
    (ss_cons (st_if (t_cmp (o_eq hr.units) (d_w 8) (d_S d_str) (nomark _)) (ss_one (st_ret (d_tup (a_consE (d_tup (a_consE (d_op o_add (d_w 5) (d_S d_int)) (a_consE (d_v 6) a_nil))) (a_consE (d_ix (d_w 6) (d_S (d_ix (d_w 7) (d_S d_int)))) a_nil))))) ss_nil)
    (ss_one (st_ret (d_tup (a_consE (d_tup (a_consE (d_op o_add (d_w 5) (d_S d_int)) (a_consE (d_callO O_replaced (hr.mono (by decide)) (by rfl) (tk_of (takes_of rfl rfl rfl rfl)) (a_consE (d_v 6) (a_consE (d_ix (d_w 7) (d_S d_int)) (a_consE (d_callO O_written (hr.mono (by decide)) (by rfl) (tk_of (takes_of rfl rfl rfl rfl)) (a_consE (d_v 3) (a_consE (d_v 7) (a_consE (d_v 6) a_nil)))) a_nil)))) a_nil))) (a_consE d_non a_nil)))))))))))))
/-! ### Live_go -/
abbrev s_Live_go : Stmt := inClass (topS 42) 1
def b_Live_go : FS := (sSeq (sIf (eB gIsN' (eFdS 0 "Live" "_state") (eC .non)) (sRetB 0 (eC (.bl false))) sNx)
  (sSeq (sFdT 0 "Live" "_state" 1 (eCall 2 m_stepped (aCons (eFd 0 "Live" "_program") (aCons (eFd 0 "Live" "_state") aNil))))
  (sSeq (sIf (eB gNotN' (eW 1) (eC .non)) (sFdA 0 "Live" "_said" (eV 1)) sNx)
  (sSeq (sExpM 0 "Live" "_settle" 1 m_Live__settle aNil)
  (sRetB 0 (eC (.bl true)))))))
def m_Live_go : MirB := fDefB 0 2 b_Live_go
theorem sc_Live_go : FnScope ["self", "number"] ["self"] (defScope s_Live_go) := ⟨rfl, rfl, rfl, by decide +kernel, rfl, by decide +kernel, by decide +kernel⟩
theorem ok_Live_go (T : Tx w K mg) (A : AtM K mg "Live" "go" "Live.go" s_Live_go ["self"]) (O_Live__settle : OkM P0 w K mg base 3 "Live" "_settle" 1 m_Live__settle) (O_stepped : Ok P0 w K mg base 2 "stepped" 2 m_stepped) : OkM P0 w K mg base 4 "Live" "go" 1 m_Live_go :=
  okOM (N := ["self", "number"]) (fs := b_Live_go) A sc_Live_go rfl (by decide) rfl fun f cdv A outer s H Hm G a E hr =>
    (ss_cons (st_if (t_cmp o_isN (d_fdS (i := 0) T.k_Live) (d_S d_non) (nomark _)) (ss_one (st_retB 0 d_bl)) ss_nil)
    (ss_cons (st_fdT (i := 0) (j := 1) T.k_Live (d_callO O_stepped (hr.mono (by decide)) (by rfl) (tk_of (takes_of rfl rfl rfl rfl)) (a_consE (d_fd (i := 0) T.k_Live) (a_consE (d_fd (i := 0) T.k_Live) a_nil))) rfl sc_Live_go.nd rfl (by first | exact Or.inl rfl | exact Or.inr rfl))
    (ss_cons (st_if (t_cmp o_notN (d_w 1) (d_S d_non) (nomark _)) (ss_one (st_fdA (i := 0) T.k_Live (d_v 1) (pe_bm PySem.F.plainAttrs_list PySem.F.slot_list_append PySem.F.type_list_append mt_append (pe_fld (pv 0) rfl) (pa_cons (d_v 1) pa_nil)))) ss_nil)
    (ss_cons (st_expM0 (j := 0) O_Live__settle (hr.mono (by decide)) (tk_of (takes_of rfl rfl rfl rfl)))
    (ss_one (st_retB 0 d_bl))))))
/-! ### Live_state -/
abbrev s_Live_state : Stmt := inClass (topS 42) 6
def f_Live_state : FE := (eFd 0 "Live" "_state")
def g_Live_state : D → Res T := fDefR 1 f_Live_state
theorem sc_Live_state : FnScope ["self"] ["self"] (defScope s_Live_state) := ⟨rfl, rfl, rfl, by decide +kernel, rfl, by decide +kernel, by decide +kernel⟩
theorem ok_Live_state (T : Tx w K mg) (A : AtM K mg "Live" "state" "Live.state" s_Live_state ["self"]) : OkR P0 w K mg base 1 "Live" "state" .E g_Live_state :=
  okOR (N := ["self"]) (fe := f_Live_state) A sc_Live_state rfl rfl rfl fun f cdv A outer s H Hm G a E hr =>
    (d_fd (i := 0) T.k_Live)
/-! ### law_cell_at -/
abbrev s_law_cell_at : Stmt := topS 44
def b_law_cell_at : FS := (sSeq (sIf (eB gLt (eW 1) (eU gLen (eW 0))) (sRet (eB gIx (eW 0) (eW 1))) sNx)
  (sRet (eC (.int 0))))
def m_law_cell_at : Mir := fDef 2 b_law_cell_at
theorem sc_law_cell_at : FnScope ["_law_script", "_law_k"] ["_law_script", "_law_k"] (defScope s_law_cell_at) := ⟨rfl, rfl, rfl, by decide +kernel, rfl, by decide +kernel, by decide +kernel⟩
theorem ok_law_cell_at (T : Tx w K mg) (A : At K mg "_law_cell_at" s_law_cell_at ["_law_script", "_law_k"]) : Ok P0 w K mg base 1 "_law_cell_at" 2 m_law_cell_at :=
  okO (N := ["_law_script", "_law_k"]) (fs := b_law_cell_at) A sc_law_cell_at rfl rfl fun f cdv A outer s H G E hr =>
    (ss_cons (st_if (t_cmp o_lt (d_w 1) (d_S (d_cB c_len (by rfl) T.n_len PySem.boot_len (d_w 0))) (nomark _)) (ss_one (st_ret (d_ix (d_w 0) (d_w 1)))) ss_nil)
    (ss_one (st_ret d_int)))
/-! ### copied -/
abbrev s_copied : Stmt := topS 41
def b_copied : FS := (sSeq (sAsg (.tp [1, 2, 3]) (eV 0))
  (sRet (eTup (aCons (eV 1) (aCons (eV 2) (aCons (eU gList (eW 3)) aNil))))))
def m_copied : Mir := fDef 4 b_copied
theorem sc_copied : FnScope ["program", "boxes", "most", "rows"] ["program"] (defScope s_copied) := ⟨rfl, rfl, rfl, by decide +kernel, rfl, by decide +kernel, by decide +kernel⟩
theorem ok_copied (T : Tx w K mg) (A : At K mg "copied" s_copied ["program"]) : Ok P0 w K mg base 1 "copied" 1 m_copied :=
  okO (N := ["program", "boxes", "most", "rows"]) (fs := b_copied) A sc_copied rfl rfl fun f cdv A outer s H G E hr =>
    (ss_cons (st_asg (d_v 0) (pg_tup rfl (pgs_cons (pg_name (i := 1) sc_copied.nd rfl (by first | exact Or.inl rfl | exact Or.inr rfl)) (pgs_cons (pg_name (i := 2) sc_copied.nd rfl (by first | exact Or.inl rfl | exact Or.inr rfl)) (pgs_cons (pg_name (i := 3) sc_copied.nd rfl (by first | exact Or.inl rfl | exact Or.inr rfl)) pgs_nil)))))
    (ss_one (st_ret (d_tup (a_consE (d_v 1) (a_consE (d_v 2) (a_consE (d_NE (d_cT c_list (by rfl) T.n_list (by decide +kernel) (d_w 3))) a_nil)))))))
/-! ### whole -/
abbrev s_whole : Stmt := topS 14
def b_whole : FS := (sRet (eAnd (eB (gTyIs false) (eU gType (eW 0)) (eC (.ty "int"))) (eCh gLe gLe (eW 1) (eW 0) (eW 2))))
def m_whole : Mir := fDef 3 b_whole
theorem sc_whole : FnScope ["thing", "low", "high"] ["thing", "low", "high"] (defScope s_whole) := ⟨rfl, rfl, rfl, by decide +kernel, rfl, by decide +kernel, by decide +kernel⟩
theorem ok_whole (T : Tx w K mg) (A : At K mg "whole" s_whole ["thing", "low", "high"]) : Ok P0 w K mg base 1 "whole" 3 m_whole :=
  okO (N := ["thing", "low", "high"]) (fs := b_whole) A sc_whole rfl rfl fun f cdv A outer s H G E hr =>
    (ss_one (st_ret (d_and (d_cmp o_tyIs (d_S (d_cT c_type (by rfl) T.n_type (by decide +kernel) (d_w 0))) (d_S (d_ty (by rfl) T.n_int (by decide +kernel))) (nomark _)) (d_one (d_ch o_le o_le (d_w 1) (d_w 0) (d_w 2))))))
/-! ### is_numbers -/
abbrev s_is_numbers : Stmt := topS 17
def b_is_numbers : FS := (sSeq (sAsg (.tp [2, 3, 4]) (eV 0))
  (sSeq (sIf (eOr (eB (gTyIs true) (eU gType (eW 1)) (eC (.ty "tuple"))) (eB gNe (eU gLen (eW 1)) (eW 2))) (sRet (eC (.bl false))) sNx)
  (sRet (eU gAll (eComp (iIt (eV 1)) (.nm 5) [5] (eC (.bl true)) (eCall 3 m_whole (aCons (eV 5) (aCons (eC (.int 0)) (aCons (eV 3) aNil)))))))))
def m_is_numbers : Mir := fDef 6 b_is_numbers
theorem sc_is_numbers : FnScope ["program", "thing", "boxes", "most", "_", "number"] ["program", "thing"] (defScope s_is_numbers) := ⟨rfl, rfl, rfl, by decide +kernel, rfl, by decide +kernel, by decide +kernel⟩
theorem ok_is_numbers (T : Tx w K mg) (A : At K mg "is_numbers" s_is_numbers ["program", "thing"]) (O_whole : Ok P0 w K mg base 1 "whole" 3 m_whole) : Ok P0 w K mg base 2 "is_numbers" 2 m_is_numbers :=
  okO (N := ["program", "thing", "boxes", "most", "_", "number"]) (fs := b_is_numbers) A sc_is_numbers rfl rfl fun f cdv A outer s H G E hr =>
    (ss_cons (st_asg (d_v 0) (pg_tup rfl (pgs_cons (pg_name (i := 2) sc_is_numbers.nd rfl (by first | exact Or.inl rfl | exact Or.inr rfl)) (pgs_cons (pg_name (i := 3) sc_is_numbers.nd rfl (by first | exact Or.inl rfl | exact Or.inr rfl)) (pgs_cons (pg_name (i := 4) sc_is_numbers.nd rfl (by first | exact Or.inl rfl | exact Or.inr rfl)) pgs_nil)))))
    (ss_cons (st_if (t_w (w_or (t_cmp o_tyNot (d_S (d_cT c_type (by rfl) T.n_type (by decide +kernel) (d_w 1))) (d_S (d_ty (by rfl) T.n_tuple (by decide +kernel))) (nomark _)) (w_or1 (t_cmp (o_ne hr.units) (d_S (d_cB c_len (by rfl) T.n_len PySem.boot_len (d_w 1))) (d_w 2) (nomark _))))) (ss_one (st_ret d_bl)) ss_nil)
    (ss_one (st_ret (d_cB (c_all rfl) (by rfl) T.n_all (by decide +kernel) (d_NS (d_lc (own := [("number", 5)]) rfl sc_is_numbers.nd (i_seq (d_v 1)) (blkOk_by (own := [("number", 5)]) (N := ["program", "thing", "boxes", "most", "_", "number"]) (sc := defScope s_is_numbers) (by decide +kernel)) (by decide) (fun _ _ _ _ _ => (asDG (.nm 5) (pg_name (i := 5) sc_is_numbers.nd rfl (by first | exact Or.inl rfl | exact Or.inr rfl)))) (fun _ _ _ _ _ => ts_nil) (fun _ _ _ _ _ => (d_callO O_whole (hr.mono (by decide)) (by rfl) tk0 (a_consE (d_v 5) (a_consE d_int (a_consE (d_v 3) a_nil))))))))))))
/-! ### is_row -/
abbrev s_is_row : Stmt := topS 15
def b_is_row : FS := (sSeq (sIf (eOr (eB (gTyIs true) (eU gType (eW 0)) (eC (.ty "tuple"))) (eB gEq (eU gLen (eW 0)) (eC (.int 0)))) (sRet (eC (.bl false))) sNx)
  (sSeq (sSet 4 (eB gIx (eW 0) (eC (.int 0))))
  (sSeq (sIf (eOr (eB (gTyIs true) (eU gType (eW 4)) (eC (.ty "str"))) (eU (gGIn true tbl_PARTS miss_PARTS) (eW 4))) (sRet (eC (.bl false))) sNx)
  (sSeq (sSet 5 (eU (gGGet tbl_PARTS) (eW 4)))
  (sSeq (sIf (eB gNe (eU gLen (eW 0)) (eB gAdd (eC (.int 1)) (eU gLen (eW 5)))) (sRet (eC (.bl false))) sNx)
  (sSeq (sSet 6 (eDisp [("box", (eB gSubI (eW 1) (eC (.int 1)))), ("number", (eV 2)), ("row", (eB gSubI (eW 3) (eC (.int 1))))]))
  (sRet (eU gAll (eComp (iEn (eV 5)) (.tp [7, 8]) [7, 8] (eC (.bl true)) (eCall 3 m_whole (aCons (eB gIx (eW 0) (eB gAdd (eC (.int 1)) (eW 7))) (aCons (eC (.int 0)) (aCons (eB gDGet (eW 6) (eW 8)) aNil)))))))))))))
def m_is_row : Mir := fDef 9 b_is_row
theorem sc_is_row : FnScope ["thing", "boxes", "most", "many", "kind", "parts", "highest", "at", "part"] ["thing", "boxes", "most", "many"] (defScope s_is_row) := ⟨rfl, rfl, rfl, by decide +kernel, rfl, by decide +kernel, by decide +kernel⟩
theorem ok_is_row (T : Tx w K mg) (A : At K mg "is_row" s_is_row ["thing", "boxes", "most", "many"]) (O_whole : Ok P0 w K mg base 1 "whole" 3 m_whole) : Ok P0 w K mg base 2 "is_row" 4 m_is_row :=
  okO (N := ["thing", "boxes", "most", "many", "kind", "parts", "highest", "at", "part"]) (fs := b_is_row) A sc_is_row rfl rfl fun f cdv A outer s H G E hr =>
    (ss_cons (st_if (t_w (w_or (t_cmp o_tyNot (d_S (d_cT c_type (by rfl) T.n_type (by decide +kernel) (d_w 0))) (d_S (d_ty (by rfl) T.n_tuple (by decide +kernel))) (nomark _)) (w_or1 (t_cmp (o_eq hr.units) (d_S (d_cB c_len (by rfl) T.n_len PySem.boot_len (d_w 0))) (d_S d_int) (nomark _))))) (ss_one (st_ret d_bl)) ss_nil)
    (ss_cons (st_set (i := 4) sc_is_row.nd rfl (by first | exact Or.inl rfl | exact Or.inr rfl) (d_ix (d_w 0) (d_S d_int)))
    (ss_cons (st_if (t_w (w_or (t_cmp o_tyNot (d_S (d_cT c_type (by rfl) T.n_type (by decide +kernel) (d_w 4))) (d_S (d_ty (by rfl) T.n_str (by decide +kernel))) (nomark _)) (w_or1 (t_gninO T.g_PARTS (by rfl) (d_w 4) (by rfl))))) (ss_one (st_ret d_bl)) ss_nil)
    (ss_cons (st_set (i := 5) sc_is_row.nd rfl (by first | exact Or.inl rfl | exact Or.inr rfl) (d_ggetO T.g_PARTS (by rfl) (d_w 4)))
    (ss_cons (st_if (t_cmp (o_ne hr.units) (d_S (d_cB c_len (by rfl) T.n_len PySem.boot_len (d_w 0))) (d_S (d_op o_add (d_S d_int) (d_S (d_cB c_len (by rfl) T.n_len PySem.boot_len (d_w 5))))) (nomark _)) (ss_one (st_ret d_bl)) ss_nil)
    (ss_cons (st_set (i := 6) sc_is_row.nd rfl (by first | exact Or.inl rfl | exact Or.inr rfl) (d_NE (d_disp (p_cons (d_op o_sub (d_w 1) (d_S d_int)) (p_cons (d_v 2) (p_cons (d_op o_sub (d_w 3) (d_S d_int)) p_nil))) rfl rfl (by intro z; cases z) (by decide))))
    (ss_one (st_ret (d_cB (c_all rfl) (by rfl) T.n_all (by decide +kernel) (d_NS (d_lc (own := [("at", 7), ("part", 8)]) rfl sc_is_row.nd (i_en (by rfl) T.n_enumerate (d_v 5)) (blkOk_by (own := [("at", 7), ("part", 8)]) (N := ["thing", "boxes", "most", "many", "kind", "parts", "highest", "at", "part"]) (sc := defScope s_is_row) (by decide +kernel)) (by decide) (fun _ _ _ _ _ => (asDG (.tp [7, 8]) (pg_tup rfl (pgs_cons (pg_name (i := 7) sc_is_row.nd rfl (by first | exact Or.inl rfl | exact Or.inr rfl)) (pgs_cons (pg_name (i := 8) sc_is_row.nd rfl (by first | exact Or.inl rfl | exact Or.inr rfl)) pgs_nil))))) (fun _ _ _ _ _ => ts_nil) (fun _ _ _ _ _ => (d_callO O_whole (hr.mono (by decide)) (by rfl) tk0 (a_consE (d_ix (d_w 0) (d_S (d_op o_add (d_S d_int) (d_w 7)))) (a_consE d_int (a_consE (d_dget (hu_of hr) (d_w 6) (d_w 8)) a_nil))))))))))))))))
/-! ### is_program -/
abbrev s_is_program : Stmt := topS 16
def b_is_program : FS := (sSeq (sIf (eOr (eB (gTyIs true) (eU gType (eW 0)) (eC (.ty "tuple"))) (eB gNe (eU gLen (eW 0)) (eC (.int 3)))) (sRet (eC (.bl false))) sNx)
  (sSeq (sAsg (.tp [1, 2, 3]) (eV 0))
  (sSeq (sIf (eOr (eNot (eCall 3 m_whole (aCons (eV 1) (aCons (eC (.int 0)) (aCons (eC (.int 3)) aNil))))) (eNot (eCall 3 m_whole (aCons (eV 2) (aCons (eC (.int 1)) (aCons (eC (.int 4)) aNil)))))) (sRet (eC (.bl false))) sNx)
  (sSeq (sIf (eOr (eB (gTyIs true) (eU gType (eW 3)) (eC (.ty "list"))) (eNot (eCh gLe gLe (eC (.int 1)) (eU gLen (eW 3)) (eC (.int 20))))) (sRet (eC (.bl false))) sNx)
  (sSeq (sIf (eNot (eU gAll (eComp (iIt (eV 3)) (.nm 4) [4] (eC (.bl true)) (eCall 4 m_is_row (aCons (eV 4) (aCons (eV 1) (aCons (eV 2) (aCons (eU gLen (eW 3)) aNil)))))))) (sRet (eC (.bl false))) sNx)
  (sRet (eB (gIn false) (eB gIx (eB gIx (eW 3) (eNeg (eC (.int 1)))) (eC (.int 0))) (eTup (aCons (eC (.str "go")) (aCons (eC (.str "stop")) aNil))))))))))
def m_is_program : Mir := fDef 5 b_is_program
theorem sc_is_program : FnScope ["thing", "boxes", "most", "rows", "row"] ["thing"] (defScope s_is_program) := ⟨rfl, rfl, rfl, by decide +kernel, rfl, by decide +kernel, by decide +kernel⟩
theorem ok_is_program (T : Tx w K mg) (A : At K mg "is_program" s_is_program ["thing"]) (O_is_row : Ok P0 w K mg base 2 "is_row" 4 m_is_row) (O_whole : Ok P0 w K mg base 1 "whole" 3 m_whole) : Ok P0 w K mg base 3 "is_program" 1 m_is_program :=
  okO (N := ["thing", "boxes", "most", "rows", "row"]) (fs := b_is_program) A sc_is_program rfl rfl fun f cdv A outer s H G E hr =>
    (ss_cons (st_if (t_w (w_or (t_cmp o_tyNot (d_S (d_cT c_type (by rfl) T.n_type (by decide +kernel) (d_w 0))) (d_S (d_ty (by rfl) T.n_tuple (by decide +kernel))) (nomark _)) (w_or1 (t_cmp (o_ne hr.units) (d_S (d_cB c_len (by rfl) T.n_len PySem.boot_len (d_w 0))) (d_S d_int) (nomark _))))) (ss_one (st_ret d_bl)) ss_nil)
    (ss_cons (st_asg (d_v 0) (pg_tup rfl (pgs_cons (pg_name (i := 1) sc_is_program.nd rfl (by first | exact Or.inl rfl | exact Or.inr rfl)) (pgs_cons (pg_name (i := 2) sc_is_program.nd rfl (by first | exact Or.inl rfl | exact Or.inr rfl)) (pgs_cons (pg_name (i := 3) sc_is_program.nd rfl (by first | exact Or.inl rfl | exact Or.inr rfl)) pgs_nil)))))
    (ss_cons (st_if (t_w (w_or (t_not (t_val (d_callO O_whole (hr.mono (by decide)) (by rfl) (tk_of (takes_of rfl rfl rfl rfl)) (a_consE (d_v 1) (a_consE d_int (a_consE (d_gi T.i_MOST_BOXES (by rfl)) a_nil)))))) (w_or1 (t_not (t_val (d_callO O_whole (hr.mono (by decide)) (by rfl) (tk_of (takes_of rfl rfl rfl rfl)) (a_consE (d_v 2) (a_consE d_int (a_consE (d_gi T.i_HIGHEST_MOST (by rfl)) a_nil))))))))) (ss_one (st_ret d_bl)) ss_nil)
    (ss_cons (st_if (t_w (w_or (t_cmp o_tyNot (d_S (d_cT c_type (by rfl) T.n_type (by decide +kernel) (d_w 3))) (d_S (d_ty (by rfl) T.n_list (by decide +kernel))) (nomark _)) (w_or1 (t_not (t_ch o_le o_le (d_S d_int) (d_S (d_cB c_len (by rfl) T.n_len PySem.boot_len (d_w 3))) (d_S (d_gi T.i_MOST_ROWS (by rfl)))))))) (ss_one (st_ret d_bl)) ss_nil)
    (ss_cons (st_if (t_not (t_val (d_cB (c_all rfl) (by rfl) T.n_all (by decide +kernel) (d_NS (d_lc (own := [("row", 4)]) rfl sc_is_program.nd (i_seq (d_v 3)) (blkOk_by (own := [("row", 4)]) (N := ["thing", "boxes", "most", "rows", "row"]) (sc := defScope s_is_program) (by decide +kernel)) (by decide) (fun _ _ _ _ _ => (asDG (.nm 4) (pg_name (i := 4) sc_is_program.nd rfl (by first | exact Or.inl rfl | exact Or.inr rfl)))) (fun _ _ _ _ _ => ts_nil) (fun _ _ _ _ _ => (d_callO O_is_row (hr.mono (by decide)) (by rfl) tk0 (a_consE (d_v 4) (a_consE (d_v 1) (a_consE (d_v 2) (a_consE (d_cB c_len (by rfl) T.n_len PySem.boot_len (d_w 3)) a_nil))))))))))) (ss_one (st_ret d_bl)) ss_nil)
    (ss_one (st_ret (d_cmp o_in (d_S (d_ix (d_S (d_ix (d_w 3) (d_S (d_neg (d_S d_int))))) (d_S d_int))) (d_S (d_tup (a_consE d_str (a_consE d_str a_nil)))) (by rfl)))))))))
/-! ### need_program -/
abbrev s_need_program : Stmt := topS 19
def b_need_program : FS := (sSeq (sIf (eNot (eCall 1 m_is_program (aCons (eV 0) aNil))) (sRaise "BadProgram") sNx)
  (sRet (eV 0)))
def m_need_program : Mir := fDef 1 b_need_program
theorem sc_need_program : FnScope ["thing"] ["thing"] (defScope s_need_program) := ⟨rfl, rfl, rfl, by decide +kernel, rfl, by decide +kernel, by decide +kernel⟩
theorem ok_need_program (T : Tx w K mg) (A : At K mg "need_program" s_need_program ["thing"]) (O_is_program : Ok P0 w K mg base 3 "is_program" 1 m_is_program) : Ok P0 w K mg base 4 "need_program" 1 m_need_program :=
  okO (N := ["thing"]) (fs := b_need_program) A sc_need_program rfl rfl fun f cdv A outer s H G E hr =>
    (ss_cons (st_if (t_not (t_val (d_callO O_is_program (hr.mono (by decide)) (by rfl) (tk_of (takes_of rfl rfl rfl rfl)) (a_consE (d_v 0) a_nil)))) (ss_one (st_raiseO T.r_BadProgram rfl (takes_of rfl rfl rfl rfl) (by rfl))) ss_nil)
    (ss_one (st_ret (d_v 0))))
/-! ### Live___init__ -/
abbrev s_Live___init__ : Stmt := inClass (topS 42) 0
def b_Live___init__ : FS := (sSeq (sExp (eCall 1 m_need_program (aCons (eV 1) aNil)))
  (sSeq (sIf (eNot (eCall 2 m_is_numbers (aCons (eV 1) (aCons (eV 2) aNil)))) (sRaise "BadState") sNx)
  (sSeq (sFd 0 "Live" "_program" (eCall 1 m_copied (aCons (eV 1) aNil)))
  (sSeq (sFd 0 "Live" "_state" (eTup (aCons (eC (.int 0)) (aCons (eV 2) aNil))))
  (sSeq (sFdN 0 "Live" "_said" (eLst aNil))
  (sSeq (sFd 0 "Live" "_changed" (eC (.int 0)))
  (sSeq (sFd 0 "Live" "_second" (eC .non))
  (sFd 0 "Live" "_there" (eC .non)))))))))
def m_Live___init__ : MirB := fDefB 0 3 b_Live___init__
theorem sc_Live___init__ : FnScope ["self", "program", "begin"] ["self", "program", "begin"] (defScope s_Live___init__) := ⟨rfl, rfl, rfl, by decide +kernel, rfl, by decide +kernel, by decide +kernel⟩
theorem ok_Live___init__ (T : Tx w K mg) (A : AtC K mg "Live" "Live.__init__" s_Live___init__ ["self", "program", "begin"]) (O_copied : Ok P0 w K mg base 1 "copied" 1 m_copied) (O_is_numbers : Ok P0 w K mg base 2 "is_numbers" 2 m_is_numbers) (O_need_program : Ok P0 w K mg base 4 "need_program" 1 m_need_program) : OkC P0 w K mg base 5 "Live" 3 m_Live___init__ :=
  okOC (N := ["self", "program", "begin"]) (fs := b_Live___init__) A sc_Live___init__ rfl (by decide) rfl fun f cdv A outer s H Hm G a E hr =>
    (ss_cons (st_expr (d_S (d_callO O_need_program (hr.mono (by decide)) (by rfl) (tk_of (takes_of rfl rfl rfl rfl)) (a_consE (d_v 1) a_nil))))
    (ss_cons (st_if (t_not (t_val (d_callO O_is_numbers (hr.mono (by decide)) (by rfl) (tk_of (takes_of rfl rfl rfl rfl)) (a_consE (d_v 1) (a_consE (d_v 2) a_nil))))) (ss_one (st_raiseO T.r_BadState rfl (takes_of rfl rfl rfl rfl) (by rfl))) ss_nil)
    (ss_cons (st_fd (i := 0) T.k_Live (d_callO O_copied (hr.mono (by decide)) (by rfl) (tk_of (takes_of rfl rfl rfl rfl)) (a_consE (d_v 1) a_nil)))
    (ss_cons (st_fd (i := 0) T.k_Live (d_tup (a_consE d_int (a_consE (d_v 2) a_nil))))
    (ss_cons (st_fdN (i := 0) T.k_Live (d_lst a_nil))
    (ss_cons (st_fd (i := 0) T.k_Live d_int)
    (ss_cons (st_fd (i := 0) T.k_Live d_non)
    (ss_one (st_fd (i := 0) T.k_Live d_non)))))))))
/-! ### law_gone -/
abbrev s_law_gone : Stmt := topS 53
def b_law_gone : FS := (sSeq (sMake 3 "Live" 3 m_Live___init__ (aCons (eV 0) (aCons (eV 1) aNil)))
  (sSeq (sFor (iRg (eV 2)) (.nm 4) (sExpM 3 "Live" "go" 1 m_Live_go aNil))
  (sRetD 3)))
def m_law_gone : Mir := fDefN 5 b_law_gone
theorem sc_law_gone : FnScope ["_law_program_here", "_law_begin", "_law_many", "_law_live", "_law_turn"] ["_law_program_here", "_law_begin", "_law_many"] (defScope s_law_gone) := ⟨rfl, rfl, rfl, by decide +kernel, rfl, by decide +kernel, by decide +kernel⟩
theorem ok_law_gone (T : Tx w K mg) (A : At K mg "_law_gone" s_law_gone ["_law_program_here", "_law_begin", "_law_many"]) (O_Live___init__ : OkC P0 w K mg base 5 "Live" 3 m_Live___init__) (O_Live_go : OkM P0 w K mg base 4 "Live" "go" 1 m_Live_go) : OkD P0 w K mg base 7 "_law_gone" 3 m_law_gone :=
  okOD (N := ["_law_program_here", "_law_begin", "_law_many", "_law_live", "_law_turn"]) (fs := b_law_gone) A sc_law_gone rfl rfl fun f cdv A outer s H G E hr =>
    (ss_cons (st_make (i := 3) O_Live___init__ (hr.mono (by decide)) (by rfl) (a_consE (d_v 0) (a_consE (d_v 1) a_nil)) sc_law_gone.nd rfl (by first | exact Or.inl rfl | exact Or.inr rfl))
    (ss_cons (st_for (passes_of rfl) rfl (i_rg (by rfl) T.n_range (d_v 2)) (pg_name (i := 4) sc_law_gone.nd rfl (by first | exact Or.inl rfl | exact Or.inr rfl)) (ss_one (st_expM0 (j := 3) O_Live_go (hr.mono (by decide)) (tk_of (takes_of rfl rfl rfl rfl)))))
    (ss_one (st_retD 3))))
/-! ### law_next -/
abbrev s_law_next : Stmt := topS 45
def b_law_next : FS := (sRet (eB gMod (eB gAdd (eB gMul (eW 0) (eC (.int 48271))) (eC (.int 11))) (eC (.int 2147483647))))
def m_law_next : Mir := fDef 1 b_law_next
theorem sc_law_next : FnScope ["_law_seed"] ["_law_seed"] (defScope s_law_next) := ⟨rfl, rfl, rfl, by decide +kernel, rfl, by decide +kernel, by decide +kernel⟩
theorem ok_law_next (T : Tx w K mg) (A : At K mg "_law_next" s_law_next ["_law_seed"]) : Ok P0 w K mg base 1 "_law_next" 1 m_law_next :=
  okO (N := ["_law_seed"]) (fs := b_law_next) A sc_law_next rfl rfl fun f cdv A outer s H G E hr =>
    (ss_one (st_ret (d_op o_mod (d_S (d_op o_add (d_S (d_op o_mul (d_w 0) (d_S d_int))) (d_S d_int))) (d_S d_int))))
/-! ### law_numbers -/
abbrev s_law_numbers : Stmt := topS 50
def b_law_numbers : FS := (sSeq (sSet 2 (eTup aNil))
  (sSeq (sFor (iRg (eB gIx (eW 1) (eC (.int 0)))) (.nm 3) (sSeq (sSet 0 (eCall 1 m_law_next (aCons (eB gAdd (eW 0) (eW 3)) aNil)))
  (sSet 2 (eB gAdd (eW 2) (eTup (aCons (eB gMod (eB gDiv (eW 0) (eC (.int 3))) (eB gAdd (eB gIx (eW 1) (eC (.int 1))) (eC (.int 1)))) aNil))))))
  (sRet (eV 2))))
def m_law_numbers : Mir := fDef 4 b_law_numbers
theorem sc_law_numbers : FnScope ["_law_seed", "_law_program_here", "_law_found", "_law_box"] ["_law_seed", "_law_program_here"] (defScope s_law_numbers) := ⟨rfl, rfl, rfl, by decide +kernel, rfl, by decide +kernel, by decide +kernel⟩
theorem ok_law_numbers (T : Tx w K mg) (A : At K mg "_law_numbers" s_law_numbers ["_law_seed", "_law_program_here"]) (O_law_next : Ok P0 w K mg base 1 "_law_next" 1 m_law_next) : Ok P0 w K mg base 2 "_law_numbers" 2 m_law_numbers :=
  okO (N := ["_law_seed", "_law_program_here", "_law_found", "_law_box"]) (fs := b_law_numbers) A sc_law_numbers rfl rfl fun f cdv A outer s H G E hr =>
    (ss_cons (st_set (i := 2) sc_law_numbers.nd rfl (by first | exact Or.inl rfl | exact Or.inr rfl) (d_tup a_nil))
    (ss_cons (st_for (passes_of rfl) rfl (i_rg (by rfl) T.n_range (d_ix (d_w 1) (d_S d_int))) (pg_name (i := 3) sc_law_numbers.nd rfl (by first | exact Or.inl rfl | exact Or.inr rfl)) (ss_cons (st_set (i := 0) sc_law_numbers.nd rfl (by first | exact Or.inl rfl | exact Or.inr rfl) (d_callO O_law_next (hr.mono (by decide)) (by rfl) (tk_of (takes_of rfl rfl rfl rfl)) (a_consE (d_op o_add (d_w 0) (d_w 3)) a_nil)))
    (ss_one (st_set (i := 2) sc_law_numbers.nd rfl (by first | exact Or.inl rfl | exact Or.inr rfl) (d_op o_add (d_w 2) (d_S (d_tup (a_consE (d_op o_mod (d_S (d_op o_div (d_w 0) (d_S d_int))) (d_S (d_op o_add (d_S (d_ix (d_w 1) (d_S d_int))) (d_S d_int)))) a_nil))))))))
    (ss_one (st_ret (d_v 2)))))
/-! ### law_rule -/
abbrev s_law_rule : Stmt := topS 48
def b_law_rule : FS := (sSeq (sIf (eOr (eB gEq (eB gIx (eW 1) (eC (.int 0))) (eC (.int 0))) (eB gEq (eB gMod (eW 0) (eC (.int 4))) (eC (.int 0)))) (sRet (eTup (aCons (eC (.str "is")) (aCons (eB gIx (eLst (aCons (eB gMod (eB gDiv (eW 0) (eC (.int 4))) (eB gAdd (eB gIx (eW 2) (eC (.int 1))) (eC (.int 1)))) (aCons (eC .non) aNil))) (eU gInt (eB gEq (eB gMod (eB gDiv (eW 0) (eC (.int 40))) (eC (.int 13))) (eC (.int 1))))) aNil)))) sNx)
  (sSeq (sNew 3 (eLst aNil))
  (sSeq (sFor (iRg (eB gAdd (eB gIx (eW 1) (eC (.int 1))) (eC (.int 1)))) (.nm 4) (sApp 3 (eB gIx (eLst (aCons (eB gMod (eB gDiv (eW 0) (eB gAdd (eC (.int 4)) (eB gMul (eC (.int 5)) (eW 4)))) (eB gAdd (eB gIx (eW 2) (eC (.int 1))) (eC (.int 1)))) (aCons (eC .non) aNil))) (eU gInt (eB gEq (eB gMod (eB gDiv (eW 0) (eB gAdd (eC (.int 40)) (eB gMul (eC (.int 7)) (eW 4)))) (eC (.int 23))) (eC (.int 1)))))))
  (sRet (eTup (aCons (eC (.str "by")) (aCons (eB gMod (eB gDiv (eW 0) (eC (.int 400))) (eB gIx (eW 1) (eC (.int 0)))) (aCons (eU gTuple (eW 3)) aNil))))))))
def m_law_rule : Mir := fDef 5 b_law_rule
theorem sc_law_rule : FnScope ["_law_seed", "_law_one", "_law_two", "_law_numbers_here", "_law_k"] ["_law_seed", "_law_one", "_law_two"] (defScope s_law_rule) := ⟨rfl, rfl, rfl, by decide +kernel, rfl, by decide +kernel, by decide +kernel⟩
theorem ok_law_rule (T : Tx w K mg) (A : At K mg "_law_rule" s_law_rule ["_law_seed", "_law_one", "_law_two"]) : Ok P0 w K mg base 1 "_law_rule" 3 m_law_rule :=
  okO (N := ["_law_seed", "_law_one", "_law_two", "_law_numbers_here", "_law_k"]) (fs := b_law_rule) A sc_law_rule rfl rfl fun f cdv A outer s H G E hr =>
    (ss_cons (st_if (t_w (w_or (t_cmp (o_eq hr.units) (d_S (d_ix (d_w 1) (d_S d_int))) (d_S d_int) (nomark _)) (w_or1 (t_cmp (o_eq hr.units) (d_S (d_op o_mod (d_w 0) (d_S d_int))) (d_S d_int) (nomark _))))) (ss_one (st_ret (d_tup (a_consE d_str (a_consE (d_ix (d_NS (d_lst (a_consE (d_op o_mod (d_S (d_op o_div (d_w 0) (d_S d_int))) (d_S (d_op o_add (d_S (d_ix (d_w 2) (d_S d_int))) (d_S d_int)))) (a_consE d_non a_nil)))) (d_S (d_cT c_int (by rfl) T.n_int (by decide +kernel) (d_S (d_cmp (o_eq hr.units) (d_S (d_op o_mod (d_S (d_op o_div (d_w 0) (d_S d_int))) (d_S d_int))) (d_S d_int) (nomark _)))))) a_nil))))) ss_nil)
    (ss_cons (st_new (i := 3) sc_law_rule.nd rfl (by first | exact Or.inl rfl | exact Or.inr rfl) (d_lst a_nil))
    (ss_cons (st_for (passes_of rfl) rfl (i_rg (by rfl) T.n_range (d_op o_add (d_S (d_ix (d_w 1) (d_S d_int))) (d_S d_int))) (pg_name (i := 4) sc_law_rule.nd rfl (by first | exact Or.inl rfl | exact Or.inr rfl)) (ss_one (st_app 3 rfl (by first | exact Or.inl rfl | exact Or.inr (Or.inl rfl)) (d_ix (d_NS (d_lst (a_consE (d_op o_mod (d_S (d_op o_div (d_w 0) (d_S (d_op o_add (d_S d_int) (d_S (d_op o_mul (d_S d_int) (d_w 4))))))) (d_S (d_op o_add (d_S (d_ix (d_w 2) (d_S d_int))) (d_S d_int)))) (a_consE d_non a_nil)))) (d_S (d_cT c_int (by rfl) T.n_int (by decide +kernel) (d_S (d_cmp (o_eq hr.units) (d_S (d_op o_mod (d_S (d_op o_div (d_w 0) (d_S (d_op o_add (d_S d_int) (d_S (d_op o_mul (d_S d_int) (d_w 4))))))) (d_S d_int))) (d_S d_int) (nomark _)))))) (pe_bm PySem.F.plainAttrs_list PySem.F.slot_list_append PySem.F.type_list_append mt_append (pv 3) (pa_cons (d_ix (d_NS (d_lst (a_consE (d_op o_mod (d_S (d_op o_div (d_w 0) (d_S (d_op o_add (d_S d_int) (d_S (d_op o_mul (d_S d_int) (d_w 4))))))) (d_S (d_op o_add (d_S (d_ix (d_w 2) (d_S d_int))) (d_S d_int)))) (a_consE d_non a_nil)))) (d_S (d_cT c_int (by rfl) T.n_int (by decide +kernel) (d_S (d_cmp (o_eq hr.units) (d_S (d_op o_mod (d_S (d_op o_div (d_w 0) (d_S (d_op o_add (d_S d_int) (d_S (d_op o_mul (d_S d_int) (d_w 4))))))) (d_S d_int))) (d_S d_int) (nomark _)))))) pa_nil)))))
    (ss_one (st_ret (d_tup (a_consE d_str (a_consE (d_op o_mod (d_S (d_op o_div (d_w 0) (d_S d_int))) (d_S (d_ix (d_w 1) (d_S d_int)))) (a_consE (d_cT c_tuple (by rfl) T.n_tuple (by decide +kernel) (d_w 3)) a_nil)))))))))
/-! ### law_places -/
abbrev s_law_places : Stmt := topS 49
def b_law_places : FS := (sSeq (sNew 3 (eLst aNil))
  (sSeq (sSet 4 (eCall 1 m_law_next (aCons (eV 0) aNil)))
  (sSeq (sFor (iRg (eU gLen (eB gIx (eW 1) (eC (.int 2))))) (.nm 5) (sSeq (sSet 4 (eCall 1 m_law_next (aCons (eB gAdd (eW 4) (eW 5)) aNil)))
  (sIf (eB gGt (eB gMod (eW 4) (eC (.int 3))) (eC (.int 0))) (sSeq (sSet 6 (eU gTuple (eComp (iRg (eB gIx (eW 2) (eC (.int 0)))) (.nm 7) [7] (eC (.bl true)) (eCall 3 m_law_rule (aCons (eCall 1 m_law_next (aCons (eB gAdd (eW 4) (eB gMul (eC (.int 7)) (eW 7))) aNil)) (aCons (eV 1) (aCons (eV 2) aNil)))))))
  (sIns 3 (eB gMod (eB gDiv (eW 4) (eC (.int 9))) (eB gAdd (eU gLen (eW 3)) (eC (.int 1)))) (eTup (aCons (eV 5) (aCons (eB gMod (eB gDiv (eW 4) (eC (.int 5))) (eU gLen (eB gIx (eW 2) (eC (.int 2))))) (aCons (eV 6) aNil)))))) sNx)))
  (sFrz 3 (sRet (eV 3))))))
def m_law_places : Mir := fDef 8 b_law_places
theorem sc_law_places : FnScope ["_law_cell", "_law_one", "_law_two", "_law_found", "_law_seed", "_law_row_here", "_law_rules", "_law_k"] ["_law_cell", "_law_one", "_law_two"] (defScope s_law_places) := ⟨rfl, rfl, rfl, by decide +kernel, rfl, by decide +kernel, by decide +kernel⟩
theorem ok_law_places (T : Tx w K mg) (A : At K mg "_law_places" s_law_places ["_law_cell", "_law_one", "_law_two"]) (O_law_next : Ok P0 w K mg base 1 "_law_next" 1 m_law_next) (O_law_rule : Ok P0 w K mg base 1 "_law_rule" 3 m_law_rule) : Ok P0 w K mg base 2 "_law_places" 3 m_law_places :=
  okO (N := ["_law_cell", "_law_one", "_law_two", "_law_found", "_law_seed", "_law_row_here", "_law_rules", "_law_k"]) (fs := b_law_places) A sc_law_places rfl rfl fun f cdv A outer s H G E hr =>
    (ss_cons (st_new (i := 3) sc_law_places.nd rfl (by first | exact Or.inl rfl | exact Or.inr rfl) (d_lst a_nil))
    (ss_cons (st_set (i := 4) sc_law_places.nd rfl (by first | exact Or.inl rfl | exact Or.inr rfl) (d_callO O_law_next (hr.mono (by decide)) (by rfl) (tk_of (takes_of rfl rfl rfl rfl)) (a_consE (d_v 0) a_nil)))
    (ss_cons (st_for (passes_of rfl) rfl (i_rg (by rfl) T.n_range (d_cB c_len (by rfl) T.n_len PySem.boot_len (d_S (d_ix (d_w 1) (d_S d_int))))) (pg_name (i := 5) sc_law_places.nd rfl (by first | exact Or.inl rfl | exact Or.inr rfl)) (ss_cons (st_set (i := 4) sc_law_places.nd rfl (by first | exact Or.inl rfl | exact Or.inr rfl) (d_callO O_law_next (hr.mono (by decide)) (by rfl) (tk_of (takes_of rfl rfl rfl rfl)) (a_consE (d_op o_add (d_w 4) (d_w 5)) a_nil)))
    (ss_one (st_if (t_cmp o_gt (d_S (d_op o_mod (d_w 4) (d_S d_int))) (d_S d_int) (nomark _)) (ss_cons (st_set (i := 6) sc_law_places.nd rfl (by first | exact Or.inl rfl | exact Or.inr rfl) (d_cT c_tuple (by rfl) T.n_tuple (by decide +kernel) (d_NS (d_lc (own := [("_law_k", 7)]) rfl sc_law_places.nd (i_rg (by rfl) T.n_range (d_ix (d_w 2) (d_S d_int))) (blkOk_by (own := [("_law_k", 7)]) (N := ["_law_cell", "_law_one", "_law_two", "_law_found", "_law_seed", "_law_row_here", "_law_rules", "_law_k"]) (sc := defScope s_law_places) (by decide +kernel)) (by decide) (fun _ _ _ _ _ => (asDG (.nm 7) (pg_name (i := 7) sc_law_places.nd rfl (by first | exact Or.inl rfl | exact Or.inr rfl)))) (fun _ _ _ _ _ => ts_nil) (fun _ _ _ _ _ => (d_callO O_law_rule (hr.mono (by decide)) (by rfl) tk0 (a_consE (d_callO O_law_next (hr.mono (by decide)) (by rfl) tk0 (a_consE (d_op o_add (d_w 4) (d_S (d_op o_mul (d_S d_int) (d_w 7)))) a_nil)) (a_consE (d_v 1) (a_consE (d_v 2) a_nil)))))))))
    (ss_one (st_ins 3 rfl (by first | exact Or.inl rfl | exact Or.inr (Or.inl rfl)) (d_op o_mod (d_S (d_op o_div (d_w 4) (d_S d_int))) (d_S (d_op o_add (d_S (d_cB c_len (by rfl) T.n_len PySem.boot_len (d_w 3))) (d_S d_int)))) (d_tup (a_consE (d_v 5) (a_consE (d_op o_mod (d_S (d_op o_div (d_w 4) (d_S d_int))) (d_S (d_cB c_len (by rfl) T.n_len PySem.boot_len (d_S (d_ix (d_w 2) (d_S d_int)))))) (a_consE (d_v 6) a_nil)))) (pe_bm PySem.F.plainAttrs_list PySem.F.slot_list_insert PySem.F.type_list_insert mt_insert (pv 3) (pa_cons (d_op o_mod (d_S (d_op o_div (d_w 4) (d_S d_int))) (d_S (d_op o_add (d_S (d_cB c_len (by rfl) T.n_len PySem.boot_len (d_w 3))) (d_S d_int)))) (pa_cons (d_tup (a_consE (d_v 5) (a_consE (d_op o_mod (d_S (d_op o_div (d_w 4) (d_S d_int))) (d_S (d_cB c_len (by rfl) T.n_len PySem.boot_len (d_S (d_ix (d_w 2) (d_S d_int)))))) (a_consE (d_v 6) a_nil)))) pa_nil)))))) ss_nil))))
    (ss_one (st_frz 3 (st_ret (d_v 3)))))))
/-! ### law_row -/
abbrev s_law_row : Stmt := topS 46
def b_law_row : FS := (sSeq (sSet 4 (eB gMod (eW 0) (eC (.int 10))))
  (sSeq (sIf (eB gEq (eW 1) (eC (.int 0))) (sRet (eB gIx (eLst (aCons (eTup (aCons (eC (.str "go")) (aCons (eB gMod (eB gDiv (eW 0) (eC (.int 10))) (eW 3)) aNil))) (aCons (eTup (aCons (eC (.str "stop")) aNil)) aNil))) (eB gDiv (eW 4) (eC (.int 7))))) sNx)
  (sSeq (sSet 5 (eB gMod (eB gDiv (eW 0) (eC (.int 10))) (eW 1)))
  (sSeq (sIf (eB gLt (eW 4) (eC (.int 2))) (sRet (eTup (aCons (eC (.str "put")) (aCons (eV 5) (aCons (eB gMod (eB gDiv (eW 0) (eC (.int 50))) (eB gAdd (eW 2) (eC (.int 1)))) aNil))))) sNx)
  (sSeq (sIf (eB gLt (eW 4) (eC (.int 4))) (sRet (eTup (aCons (eC (.str "more")) (aCons (eV 5) aNil)))) sNx)
  (sSeq (sIf (eB gEq (eW 4) (eC (.int 4))) (sRet (eTup (aCons (eC (.str "copy")) (aCons (eV 5) (aCons (eB gMod (eB gDiv (eW 0) (eC (.int 50))) (eW 1)) aNil))))) sNx)
  (sSeq (sIf (eB gLt (eW 4) (eC (.int 7))) (sRet (eTup (aCons (eC (.str "tell")) (aCons (eV 5) aNil)))) sNx)
  (sSeq (sIf (eB gEq (eW 4) (eC (.int 7))) (sRet (eB gIx (eLst (aCons (eTup (aCons (eC (.str "go")) (aCons (eB gMod (eB gDiv (eW 0) (eC (.int 50))) (eW 3)) aNil))) (aCons (eTup (aCons (eC (.str "stop")) aNil)) aNil))) (eB gMod (eB gDiv (eW 0) (eC (.int 20))) (eC (.int 2))))) sNx)
  (sRet (eTup (aCons (eC (.str "ask")) (aCons (eV 5) (aCons (eB gMod (eB gDiv (eW 0) (eC (.int 50))) (eW 3)) aNil)))))))))))))
def m_law_row : Mir := fDef 6 b_law_row
theorem sc_law_row : FnScope ["_law_seed", "_law_boxes", "_law_most", "_law_many", "_law_pick", "_law_box"] ["_law_seed", "_law_boxes", "_law_most", "_law_many"] (defScope s_law_row) := ⟨rfl, rfl, rfl, by decide +kernel, rfl, by decide +kernel, by decide +kernel⟩
theorem ok_law_row (T : Tx w K mg) (A : At K mg "_law_row" s_law_row ["_law_seed", "_law_boxes", "_law_most", "_law_many"]) : Ok P0 w K mg base 1 "_law_row" 4 m_law_row :=
  okO (N := ["_law_seed", "_law_boxes", "_law_most", "_law_many", "_law_pick", "_law_box"]) (fs := b_law_row) A sc_law_row rfl rfl fun f cdv A outer s H G E hr =>
    (ss_cons (st_set (i := 4) sc_law_row.nd rfl (by first | exact Or.inl rfl | exact Or.inr rfl) (d_op o_mod (d_w 0) (d_S d_int)))
    (ss_cons (st_if (t_cmp (o_eq hr.units) (d_w 1) (d_S d_int) (nomark _)) (ss_one (st_ret (d_ix (d_NS (d_lst (a_consE (d_tup (a_consE d_str (a_consE (d_op o_mod (d_S (d_op o_div (d_w 0) (d_S d_int))) (d_w 3)) a_nil))) (a_consE (d_tup (a_consE d_str a_nil)) a_nil)))) (d_S (d_op o_div (d_w 4) (d_S d_int)))))) ss_nil)
    (ss_cons (st_set (i := 5) sc_law_row.nd rfl (by first | exact Or.inl rfl | exact Or.inr rfl) (d_op o_mod (d_S (d_op o_div (d_w 0) (d_S d_int))) (d_w 1)))
    (ss_cons (st_if (t_cmp o_lt (d_w 4) (d_S d_int) (nomark _)) (ss_one (st_ret (d_tup (a_consE d_str (a_consE (d_v 5) (a_consE (d_op o_mod (d_S (d_op o_div (d_w 0) (d_S d_int))) (d_S (d_op o_add (d_w 2) (d_S d_int)))) a_nil)))))) ss_nil)
    (ss_cons (st_if (t_cmp o_lt (d_w 4) (d_S d_int) (nomark _)) (ss_one (st_ret (d_tup (a_consE d_str (a_consE (d_v 5) a_nil))))) ss_nil)
    (ss_cons (st_if (t_cmp (o_eq hr.units) (d_w 4) (d_S d_int) (nomark _)) (ss_one (st_ret (d_tup (a_consE d_str (a_consE (d_v 5) (a_consE (d_op o_mod (d_S (d_op o_div (d_w 0) (d_S d_int))) (d_w 1)) a_nil)))))) ss_nil)
    (ss_cons (st_if (t_cmp o_lt (d_w 4) (d_S d_int) (nomark _)) (ss_one (st_ret (d_tup (a_consE d_str (a_consE (d_v 5) a_nil))))) ss_nil)
    (ss_cons (st_if (t_cmp (o_eq hr.units) (d_w 4) (d_S d_int) (nomark _)) (ss_one (st_ret (d_ix (d_NS (d_lst (a_consE (d_tup (a_consE d_str (a_consE (d_op o_mod (d_S (d_op o_div (d_w 0) (d_S d_int))) (d_w 3)) a_nil))) (a_consE (d_tup (a_consE d_str a_nil)) a_nil)))) (d_S (d_op o_mod (d_S (d_op o_div (d_w 0) (d_S d_int))) (d_S d_int)))))) ss_nil)
    (ss_one (st_ret (d_tup (a_consE d_str (a_consE (d_v 5) (a_consE (d_op o_mod (d_S (d_op o_div (d_w 0) (d_S d_int))) (d_w 3)) a_nil))))))))))))))
/-! ### law_program -/
abbrev s_law_program : Stmt := topS 47
def b_law_program : FS := (sSeq (sSet 1 (eCall 1 m_law_next (aCons (eV 0) aNil)))
  (sSeq (sSet 2 (eB gIx (eLst (aCons (eC (.int 1)) (aCons (eC (.int 2)) (aCons (eC (.int 1)) (aCons (eC (.int 2)) (aCons (eC (.int 0)) (aCons (eC (.int 3)) aNil))))))) (eB gMod (eW 1) (eC (.int 6)))))
  (sSeq (sSet 3 (eB gAdd (eC (.int 1)) (eB gMod (eB gDiv (eW 1) (eC (.int 6))) (eB gIx (eLst (aCons (eC (.int 4)) (aCons (eC (.int 4)) (aCons (eC (.int 4)) (aCons (eC (.int 2)) aNil))))) (eW 2)))))
  (sSeq (sSet 4 (eB gAdd (eB gAdd (eC (.int 1)) (eB gMod (eB gDiv (eW 1) (eC (.int 24))) (eC (.int 7)))) (eB gMul (eC (.int 9)) (eU gInt (eB gEq (eB gMod (eB gDiv (eW 1) (eC (.int 200))) (eC (.int 8))) (eC (.int 3)))))))
  (sSeq (sNew 5 (eLst aNil))
  (sSeq (sFor (iRg (eV 4)) (.nm 6) (sSeq (sSet 1 (eCall 1 m_law_next (aCons (eB gAdd (eW 1) (eW 6)) aNil)))
  (sApp 5 (eCall 4 m_law_row (aCons (eV 1) (aCons (eV 2) (aCons (eV 3) (aCons (eV 4) aNil))))))))
  (sSeq (sIf (eB (gIn true) (eB gIx (eB gIx (eW 5) (eNeg (eC (.int 1)))) (eC (.int 0))) (eTup (aCons (eC (.str "go")) (aCons (eC (.str "stop")) aNil)))) (sPut 5 (eNeg (eC (.int 1))) (eB gIx (eLst (aCons (eTup (aCons (eC (.str "go")) (aCons (eB gMod (eB gDiv (eW 1) (eC (.int 7))) (eW 4)) aNil))) (aCons (eTup (aCons (eC (.str "stop")) aNil)) aNil))) (eB gDiv (eB gMod (eB gDiv (eW 1) (eC (.int 1000))) (eC (.int 3))) (eC (.int 2))))) sNx)
  (sFrz 5 (sRet (eTup (aCons (eV 2) (aCons (eV 3) (aCons (eV 5) aNil)))))))))))))
def m_law_program : Mir := fDef 7 b_law_program
theorem sc_law_program : FnScope ["_law_cell", "_law_seed", "_law_boxes", "_law_most", "_law_many", "_law_rows", "_law_k"] ["_law_cell"] (defScope s_law_program) := ⟨rfl, rfl, rfl, by decide +kernel, rfl, by decide +kernel, by decide +kernel⟩
theorem ok_law_program (T : Tx w K mg) (A : At K mg "_law_program" s_law_program ["_law_cell"]) (O_law_next : Ok P0 w K mg base 1 "_law_next" 1 m_law_next) (O_law_row : Ok P0 w K mg base 1 "_law_row" 4 m_law_row) : Ok P0 w K mg base 2 "_law_program" 1 m_law_program :=
  okO (N := ["_law_cell", "_law_seed", "_law_boxes", "_law_most", "_law_many", "_law_rows", "_law_k"]) (fs := b_law_program) A sc_law_program rfl rfl fun f cdv A outer s H G E hr =>
    (ss_cons (st_set (i := 1) sc_law_program.nd rfl (by first | exact Or.inl rfl | exact Or.inr rfl) (d_callO O_law_next (hr.mono (by decide)) (by rfl) (tk_of (takes_of rfl rfl rfl rfl)) (a_consE (d_v 0) a_nil)))
    (ss_cons (st_set (i := 2) sc_law_program.nd rfl (by first | exact Or.inl rfl | exact Or.inr rfl) (d_ix (d_NS (d_lst (a_consE d_int (a_consE d_int (a_consE d_int (a_consE d_int (a_consE d_int (a_consE d_int a_nil)))))))) (d_S (d_op o_mod (d_w 1) (d_S d_int)))))
    (ss_cons (st_set (i := 3) sc_law_program.nd rfl (by first | exact Or.inl rfl | exact Or.inr rfl) (d_op o_add (d_S d_int) (d_S (d_op o_mod (d_S (d_op o_div (d_w 1) (d_S d_int))) (d_S (d_ix (d_NS (d_lst (a_consE d_int (a_consE d_int (a_consE d_int (a_consE d_int a_nil)))))) (d_w 2)))))))
    (ss_cons (st_set (i := 4) sc_law_program.nd rfl (by first | exact Or.inl rfl | exact Or.inr rfl) (d_op o_add (d_S (d_op o_add (d_S d_int) (d_S (d_op o_mod (d_S (d_op o_div (d_w 1) (d_S d_int))) (d_S d_int))))) (d_S (d_op o_mul (d_S d_int) (d_S (d_cT c_int (by rfl) T.n_int (by decide +kernel) (d_S (d_cmp (o_eq hr.units) (d_S (d_op o_mod (d_S (d_op o_div (d_w 1) (d_S d_int))) (d_S d_int))) (d_S d_int) (nomark _)))))))))
    (ss_cons (st_new (i := 5) sc_law_program.nd rfl (by first | exact Or.inl rfl | exact Or.inr rfl) (d_lst a_nil))
    (ss_cons (st_for (passes_of rfl) rfl (i_rg (by rfl) T.n_range (d_v 4)) (pg_name (i := 6) sc_law_program.nd rfl (by first | exact Or.inl rfl | exact Or.inr rfl)) (ss_cons (st_set (i := 1) sc_law_program.nd rfl (by first | exact Or.inl rfl | exact Or.inr rfl) (d_callO O_law_next (hr.mono (by decide)) (by rfl) (tk_of (takes_of rfl rfl rfl rfl)) (a_consE (d_op o_add (d_w 1) (d_w 6)) a_nil)))
    (ss_one (st_app 5 rfl (by first | exact Or.inl rfl | exact Or.inr (Or.inl rfl)) (d_callO O_law_row (hr.mono (by decide)) (by rfl) (tk_of (takes_of rfl rfl rfl rfl)) (a_consE (d_v 1) (a_consE (d_v 2) (a_consE (d_v 3) (a_consE (d_v 4) a_nil))))) (pe_bm PySem.F.plainAttrs_list PySem.F.slot_list_append PySem.F.type_list_append mt_append (pv 5) (pa_cons (d_callO O_law_row (hr.mono (by decide)) (by rfl) (tk_of (takes_of rfl rfl rfl rfl)) (a_consE (d_v 1) (a_consE (d_v 2) (a_consE (d_v 3) (a_consE (d_v 4) a_nil))))) pa_nil))))))
    (ss_cons (st_if (t_cmp o_notIn (d_S (d_ix (d_S (d_ix (d_w 5) (d_S (d_neg (d_S d_int))))) (d_S d_int))) (d_S (d_tup (a_consE d_str (a_consE d_str a_nil)))) (by rfl)) (ss_one (st_put 5 rfl (by first | exact Or.inl rfl | exact Or.inr (Or.inl rfl)) (by decide) (by decide) (d_ix (d_NS (d_lst (a_consE (d_tup (a_consE d_str (a_consE (d_op o_mod (d_S (d_op o_div (d_w 1) (d_S d_int))) (d_w 4)) a_nil))) (a_consE (d_tup (a_consE d_str a_nil)) a_nil)))) (d_S (d_op o_div (d_S (d_op o_mod (d_S (d_op o_div (d_w 1) (d_S d_int))) (d_S d_int))) (d_S d_int)))) (d_neg (d_S d_int)) (pg_sub (pv 5) (d_neg (d_S d_int)) set_list))) ss_nil)
    (ss_one (st_frz 5 (st_ret (d_tup (a_consE (d_v 2) (a_consE (d_v 3) (a_consE (d_v 5) a_nil))))))))))))))
/-! ### Unsafe___init__ -/
abbrev s_Unsafe___init__ : Stmt := inClass (topS 8) 0
theorem sc_Unsafe___init__ : FnScope ["self", "shown"] ["self", "shown"] (defScope s_Unsafe___init__) := ⟨rfl, rfl, rfl, by decide +kernel, rfl, by decide +kernel, by decide +kernel⟩
theorem ok_Unsafe___init__ (T : Tx w K mg) (A : AtX K mg "Unsafe" "Unsafe.__init__" s_Unsafe___init__ ["self", "shown"]) : UX P0 w K mg base "Unsafe" :=
  ux_of A sc_Unsafe___init__ rfl (by first | exact Or.inl rfl | exact Or.inr (Or.inl rfl)) (by first | exact Or.inl rfl | exact Or.inr (Or.inl rfl))
/-! ### by_row -/
abbrev s_by_row : Stmt := topS 31
def b_by_row : FS := (sRet (eDComp (iIt (eV 0)) (.nm 1) [1] (eC (.bl true)) (eB gIx (eW 1) (eC (.int 0))) (eV 1)))
def m_by_row : Mir := fDef 2 b_by_row
theorem sc_by_row : FnScope ["places", "place"] ["places"] (defScope s_by_row) := ⟨rfl, rfl, rfl, by decide +kernel, rfl, by decide +kernel, by decide +kernel⟩
theorem ok_by_row (T : Tx w K mg) (A : At K mg "by_row" s_by_row ["places"]) : Ok P0 w K mg base 1 "by_row" 1 m_by_row :=
  okO (N := ["places", "place"]) (fs := b_by_row) A sc_by_row rfl rfl fun f cdv A outer s H G E hr =>
    (ss_one (st_ret (d_NE (d_dcomp (own := [("place", 1)]) rfl sc_by_row.nd (i_seq (d_v 0)) (blkOk_by (own := [("place", 1)]) (N := ["places", "place"]) (sc := defScope s_by_row) (by decide +kernel)) (by decide) (fun _ _ _ _ _ => (asDG (.nm 1) (pg_name (i := 1) sc_by_row.nd rfl (by first | exact Or.inl rfl | exact Or.inr rfl)))) (fun _ _ _ _ _ => ts_nil) (fun _ _ _ _ _ => (d_ix (d_w 1) (d_S d_int))) (fun _ _ _ _ _ => (d_v 1))))))
/-! ### is_stuck -/
abbrev s_is_stuck : Stmt := topS 36
def b_is_stuck : FS := (sSeq (sAsg (.tp [2, 3]) (eV 1))
  (sRet (eAnd (eB (gDIn false) (eW 2) (eW 0)) (eB gIsN' (eCall 2 m_turned (aCons (eB gIx (eB gDGet (eW 0) (eW 2)) (eC (.int 2))) (aCons (eV 3) aNil))) (eC .non)))))
def m_is_stuck : Mir := fDef 4 b_is_stuck
theorem sc_is_stuck : FnScope ["there", "state", "row", "numbers"] ["there", "state"] (defScope s_is_stuck) := ⟨rfl, rfl, rfl, by decide +kernel, rfl, by decide +kernel, by decide +kernel⟩
theorem ok_is_stuck (T : Tx w K mg) (A : At K mg "is_stuck" s_is_stuck ["there", "state"]) (O_turned : Ok P0 w K mg base 2 "turned" 2 m_turned) : Ok P0 w K mg base 3 "is_stuck" 2 m_is_stuck :=
  okO (N := ["there", "state", "row", "numbers"]) (fs := b_is_stuck) A sc_is_stuck rfl rfl fun f cdv A outer s H G E hr =>
    (ss_cons (st_asg (d_v 1) (pg_tup rfl (pgs_cons (pg_name (i := 2) sc_is_stuck.nd rfl (by first | exact Or.inl rfl | exact Or.inr rfl)) (pgs_cons (pg_name (i := 3) sc_is_stuck.nd rfl (by first | exact Or.inl rfl | exact Or.inr rfl)) pgs_nil))))
    (ss_one (st_ret (d_and (d_cmp (o_dIn hr.units) (d_w 2) (d_w 0) (by rfl)) (d_one (d_cmp o_isN (d_S (d_callO O_turned (hr.mono (by decide)) (by rfl) (tk_of (takes_of rfl rfl rfl rfl)) (a_consE (d_ix (d_S (d_dget (hu_of hr) (d_w 0) (d_w 2))) (d_S d_int)) (a_consE (d_v 3) a_nil)))) (d_S d_non) (nomark _)))))))
/-! ### is_state -/
abbrev s_is_state : Stmt := topS 18
def b_is_state : FS := (sSeq (sIf (eOr (eB (gTyIs true) (eU gType (eW 1)) (eC (.ty "tuple"))) (eB gNe (eU gLen (eW 1)) (eC (.int 2)))) (sRet (eC (.bl false))) sNx)
  (sSeq (sAsg (.tp [2, 3]) (eV 1))
  (sRet (eAnd (eCall 3 m_whole (aCons (eV 2) (aCons (eC (.int 0)) (aCons (eB gSubI (eU gLen (eB gIx (eW 0) (eC (.int 2)))) (eC (.int 1))) aNil)))) (eCall 2 m_is_numbers (aCons (eV 0) (aCons (eV 3) aNil)))))))
def m_is_state : Mir := fDef 4 b_is_state
theorem sc_is_state : FnScope ["program", "thing", "row", "numbers"] ["program", "thing"] (defScope s_is_state) := ⟨rfl, rfl, rfl, by decide +kernel, rfl, by decide +kernel, by decide +kernel⟩
theorem ok_is_state (T : Tx w K mg) (A : At K mg "is_state" s_is_state ["program", "thing"]) (O_is_numbers : Ok P0 w K mg base 2 "is_numbers" 2 m_is_numbers) (O_whole : Ok P0 w K mg base 1 "whole" 3 m_whole) : Ok P0 w K mg base 3 "is_state" 2 m_is_state :=
  okO (N := ["program", "thing", "row", "numbers"]) (fs := b_is_state) A sc_is_state rfl rfl fun f cdv A outer s H G E hr =>
    (ss_cons (st_if (t_w (w_or (t_cmp o_tyNot (d_S (d_cT c_type (by rfl) T.n_type (by decide +kernel) (d_w 1))) (d_S (d_ty (by rfl) T.n_tuple (by decide +kernel))) (nomark _)) (w_or1 (t_cmp (o_ne hr.units) (d_S (d_cB c_len (by rfl) T.n_len PySem.boot_len (d_w 1))) (d_S d_int) (nomark _))))) (ss_one (st_ret d_bl)) ss_nil)
    (ss_cons (st_asg (d_v 1) (pg_tup rfl (pgs_cons (pg_name (i := 2) sc_is_state.nd rfl (by first | exact Or.inl rfl | exact Or.inr rfl)) (pgs_cons (pg_name (i := 3) sc_is_state.nd rfl (by first | exact Or.inl rfl | exact Or.inr rfl)) pgs_nil))))
    (ss_one (st_ret (d_and (d_callO O_whole (hr.mono (by decide)) (by rfl) (tk_of (takes_of rfl rfl rfl rfl)) (a_consE (d_v 2) (a_consE d_int (a_consE (d_op o_sub (d_S (d_cB c_len (by rfl) T.n_len PySem.boot_len (d_S (d_ix (d_w 0) (d_S d_int))))) (d_S d_int)) a_nil)))) (d_one (d_callO O_is_numbers (hr.mono (by decide)) (by rfl) (tk_of (takes_of rfl rfl rfl rfl)) (a_consE (d_v 0) (a_consE (d_v 3) a_nil)))))))))
/-! ### need_state -/
abbrev s_need_state : Stmt := topS 20
def b_need_state : FS := (sSeq (sExp (eCall 1 m_need_program (aCons (eV 0) aNil)))
  (sSeq (sIf (eNot (eCall 2 m_is_state (aCons (eV 0) (aCons (eV 1) aNil)))) (sRaise "BadState") sNx)
  (sRet (eV 1))))
def m_need_state : Mir := fDef 2 b_need_state
theorem sc_need_state : FnScope ["program", "thing"] ["program", "thing"] (defScope s_need_state) := ⟨rfl, rfl, rfl, by decide +kernel, rfl, by decide +kernel, by decide +kernel⟩
theorem ok_need_state (T : Tx w K mg) (A : At K mg "need_state" s_need_state ["program", "thing"]) (O_is_state : Ok P0 w K mg base 3 "is_state" 2 m_is_state) (O_need_program : Ok P0 w K mg base 4 "need_program" 1 m_need_program) : Ok P0 w K mg base 5 "need_state" 2 m_need_state :=
  okO (N := ["program", "thing"]) (fs := b_need_state) A sc_need_state rfl rfl fun f cdv A outer s H G E hr =>
    (ss_cons (st_expr (d_S (d_callO O_need_program (hr.mono (by decide)) (by rfl) (tk_of (takes_of rfl rfl rfl rfl)) (a_consE (d_v 0) a_nil))))
    (ss_cons (st_if (t_not (t_val (d_callO O_is_state (hr.mono (by decide)) (by rfl) (tk_of (takes_of rfl rfl rfl rfl)) (a_consE (d_v 0) (a_consE (d_v 1) a_nil))))) (ss_one (st_raiseO T.r_BadState rfl (takes_of rfl rfl rfl rfl) (by rfl))) ss_nil)
    (ss_one (st_ret (d_v 1)))))
/-! ### met -/
abbrev s_met : Stmt := topS 37
def b_met : FS := (sSeq (sExp (eCall 2 m_need_state (aCons (eV 0) (aCons (eV 2) aNil))))
  (sSeq (sSet 3 (eCall 1 m_by_row (aCons (eV 1) aNil)))
  (sSeq (sNewDt 4)
  (sSeq (sSet 5 (eV 2))
  (sSeq (sWhile 3000 (eAnd (eB gNotN' (eW 5) (eC .non)) (eDtIn true 4 (eV 5))) (sSeq (sIf (eB (gDIn false) (eB gIx (eW 5) (eC (.int 0))) (eW 3)) (sRet (eTup (aCons (eIf (eCall 2 m_is_stuck (aCons (eV 3) (aCons (eV 5) aNil))) (eC (.str "stuck")) (eC (.str "comes"))) (aCons (eDtLen 4) aNil)))) sNx)
  (sSeq (sDtPut 4 (eV 5) (eDtLen 4))
  (sAsg (.tp [5, 6]) (eCall 2 m_stepped (aCons (eV 0) (aCons (eV 5) aNil)))))))
  (sSeq (sIf (eB gIsN' (eW 5) (eC .non)) (sRet (eTup (aCons (eC (.str "over")) (aCons (eDtLen 4) aNil)))) sNx)
  (sRet (eTup (aCons (eC (.str "missed")) (aCons (eDtGet 4 (eV 5)) (aCons (eB gSubI (eDtLen 4) (eDtGet 4 (eV 5))) aNil)))))))))))
def m_met : Mir := fDef 7 b_met
theorem sc_met : FnScope ["one", "places", "state", "there", "behind", "now", "_"] ["one", "places", "state"] (defScope s_met) := ⟨rfl, rfl, rfl, by decide +kernel, rfl, by decide +kernel, by decide +kernel⟩
theorem ok_met (T : Tx w K mg) (A : At K mg "met" s_met ["one", "places", "state"]) (O_by_row : Ok P0 w K mg base 1 "by_row" 1 m_by_row) (O_is_stuck : Ok P0 w K mg base 3 "is_stuck" 2 m_is_stuck) (O_need_state : Ok P0 w K mg base 5 "need_state" 2 m_need_state) (O_stepped : Ok P0 w K mg base 2 "stepped" 2 m_stepped) : Ok P0 w K mg base 6 "met" 3 m_met :=
  okO (N := ["one", "places", "state", "there", "behind", "now", "_"]) (fs := b_met) A sc_met rfl rfl fun f cdv A outer s H G E hr =>
    (ss_cons (st_expr (d_S (d_callO O_need_state (hr.mono (by decide)) (by rfl) (tk_of (takes_of rfl rfl rfl rfl)) (a_consE (d_v 0) (a_consE (d_v 2) a_nil)))))
    (ss_cons (st_set (i := 3) sc_met.nd rfl (by first | exact Or.inl rfl | exact Or.inr rfl) (d_callO O_by_row (hr.mono (by decide)) (by rfl) (tk_of (takes_of rfl rfl rfl rfl)) (a_consE (d_v 1) a_nil)))
    (ss_cons (st_newDt (i := 4) sc_met.nd rfl (by first | exact Or.inl rfl | exact Or.inr rfl))
    (ss_cons (st_set (i := 5) sc_met.nd rfl (by first | exact Or.inl rfl | exact Or.inr rfl) (d_v 2))
    (ss_cons (st_while (n := 3000) (passes_of rfl) (t_w (w_and (t_cmp o_notN (d_w 5) (d_S d_non) (nomark _)) (w_and1 (t_ndNin (i := 4) hr.units (d_v 5) rfl (by first | exact Or.inl rfl | exact Or.inr (Or.inl rfl) | exact Or.inr (Or.inr rfl)))))) (ss_cons (st_if (t_cmp (o_dIn hr.units) (d_S (d_ix (d_w 5) (d_S d_int))) (d_w 3) (by rfl)) (ss_one (st_ret (d_tup (a_consE (d_if (t_val (d_callO O_is_stuck (hr.mono (by decide)) (by rfl) (tk_of (takes_of rfl rfl rfl rfl)) (a_consE (d_v 3) (a_consE (d_v 5) a_nil)))) d_str d_str) (a_consE (d_ndLen (i := 4) (by rfl) T.n_len rfl (by first | exact Or.inl rfl | exact Or.inr (Or.inl rfl) | exact Or.inr (Or.inr rfl))) a_nil))))) ss_nil)
    (ss_cons (st_ndPut (i := 4) hr.units (d_ndLen (i := 4) (by rfl) T.n_len rfl (by first | exact Or.inl rfl | exact Or.inr (Or.inl rfl) | exact Or.inr (Or.inr rfl))) (d_v 5) rfl (by first | exact Or.inl rfl | exact Or.inr (Or.inl rfl) | exact Or.inr (Or.inr rfl)))
    (ss_one (st_asg (d_callO O_stepped (hr.mono (by decide)) (by rfl) (tk_of (takes_of rfl rfl rfl rfl)) (a_consE (d_v 0) (a_consE (d_v 5) a_nil))) (pg_tup rfl (pgs_cons (pg_name (i := 5) sc_met.nd rfl (by first | exact Or.inl rfl | exact Or.inr rfl)) (pgs_cons (pg_name (i := 6) sc_met.nd rfl (by first | exact Or.inl rfl | exact Or.inr rfl)) pgs_nil))))))))
    (ss_cons (st_if (t_cmp o_isN (d_w 5) (d_S d_non) (nomark _)) (ss_one (st_ret (d_tup (a_consE d_str (a_consE (d_ndLen (i := 4) (by rfl) T.n_len rfl (by first | exact Or.inl rfl | exact Or.inr (Or.inl rfl) | exact Or.inr (Or.inr rfl))) a_nil))))) ss_nil)
    (ss_one (st_ret (d_tup (a_consE d_str (a_consE (d_ndGet (i := 4) hr.units (d_v 5) rfl (by first | exact Or.inl rfl | exact Or.inr (Or.inl rfl) | exact Or.inr (Or.inr rfl))) (a_consE (d_op o_sub (d_S (d_ndLen (i := 4) (by rfl) T.n_len rfl (by first | exact Or.inl rfl | exact Or.inr (Or.inl rfl) | exact Or.inr (Or.inr rfl)))) (d_S (d_ndGet (i := 4) hr.units (d_v 5) rfl (by first | exact Or.inl rfl | exact Or.inr (Or.inl rfl) | exact Or.inr (Or.inr rfl))))) a_nil))))))))))))
/-! ### is_worth -/
abbrev s_is_worth : Stmt := topS 26
def b_is_worth : FS := (sRet (eOr (eB gIsN' (eW 1) (eC .non)) (eCall 3 m_whole (aCons (eV 1) (aCons (eC (.int 0)) (aCons (eB gIx (eW 0) (eC (.int 1))) aNil))))))
def m_is_worth : Mir := fDef 2 b_is_worth
theorem sc_is_worth : FnScope ["two", "thing"] ["two", "thing"] (defScope s_is_worth) := ⟨rfl, rfl, rfl, by decide +kernel, rfl, by decide +kernel, by decide +kernel⟩
theorem ok_is_worth (T : Tx w K mg) (A : At K mg "is_worth" s_is_worth ["two", "thing"]) (O_whole : Ok P0 w K mg base 1 "whole" 3 m_whole) : Ok P0 w K mg base 2 "is_worth" 2 m_is_worth :=
  okO (N := ["two", "thing"]) (fs := b_is_worth) A sc_is_worth rfl rfl fun f cdv A outer s H G E hr =>
    (ss_one (st_ret (d_or (d_cmp o_isN (d_w 1) (d_S d_non) (nomark _)) (d_one (d_callO O_whole (hr.mono (by decide)) (by rfl) (tk_of (takes_of rfl rfl rfl rfl)) (a_consE (d_v 1) (a_consE d_int (a_consE (d_ix (d_w 0) (d_S d_int)) a_nil))))))))
/-! ### is_rule -/
abbrev s_is_rule : Stmt := topS 27
def b_is_rule : FS := (sSeq (sIf (eOr (eB (gTyIs true) (eU gType (eW 2)) (eC (.ty "tuple"))) (eOr (eB gEq (eU gLen (eW 2)) (eC (.int 0))) (eB (gTyIs true) (eU gType (eB gIx (eW 2) (eC (.int 0)))) (eC (.ty "str"))))) (sRet (eC (.bl false))) sNx)
  (sSeq (sIf (eB gEq (eB gIx (eW 2) (eC (.int 0))) (eC (.str "is"))) (sRet (eAnd (eB gEq (eU gLen (eW 2)) (eC (.int 2))) (eCall 2 m_is_worth (aCons (eV 1) (aCons (eB gIx (eW 2) (eC (.int 1))) aNil))))) sNx)
  (sSeq (sIf (eOr (eB gNe (eB gIx (eW 2) (eC (.int 0))) (eC (.str "by"))) (eB gNe (eU gLen (eW 2)) (eC (.int 3)))) (sRet (eC (.bl false))) sNx)
  (sSeq (sAsg (.tp [3, 4, 5]) (eV 0))
  (sSeq (sAsg (.tp [5, 6, 7]) (eV 2))
  (sSeq (sIf (eOr (eNot (eCall 3 m_whole (aCons (eV 6) (aCons (eC (.int 0)) (aCons (eB gSubI (eW 3) (eC (.int 1))) aNil))))) (eOr (eB (gTyIs true) (eU gType (eW 7)) (eC (.ty "tuple"))) (eB gNe (eU gLen (eW 7)) (eB gAdd (eW 4) (eC (.int 1)))))) (sRet (eC (.bl false))) sNx)
  (sRet (eU gAll (eComp (iIt (eV 7)) (.nm 8) [8] (eC (.bl true)) (eCall 2 m_is_worth (aCons (eV 1) (aCons (eV 8) aNil))))))))))))
def m_is_rule : Mir := fDef 9 b_is_rule
theorem sc_is_rule : FnScope ["one", "two", "thing", "boxes", "most", "_", "box", "numbers", "number"] ["one", "two", "thing"] (defScope s_is_rule) := ⟨rfl, rfl, rfl, by decide +kernel, rfl, by decide +kernel, by decide +kernel⟩
theorem ok_is_rule (T : Tx w K mg) (A : At K mg "is_rule" s_is_rule ["one", "two", "thing"]) (O_is_worth : Ok P0 w K mg base 2 "is_worth" 2 m_is_worth) (O_whole : Ok P0 w K mg base 1 "whole" 3 m_whole) : Ok P0 w K mg base 3 "is_rule" 3 m_is_rule :=
  okO (N := ["one", "two", "thing", "boxes", "most", "_", "box", "numbers", "number"]) (fs := b_is_rule) A sc_is_rule rfl rfl fun f cdv A outer s H G E hr =>
    (ss_cons (st_if (t_w (w_or (t_cmp o_tyNot (d_S (d_cT c_type (by rfl) T.n_type (by decide +kernel) (d_w 2))) (d_S (d_ty (by rfl) T.n_tuple (by decide +kernel))) (nomark _)) (w_or (t_cmp (o_eq hr.units) (d_S (d_cB c_len (by rfl) T.n_len PySem.boot_len (d_w 2))) (d_S d_int) (nomark _)) (w_or1 (t_cmp o_tyNot (d_S (d_cT c_type (by rfl) T.n_type (by decide +kernel) (d_S (d_ix (d_w 2) (d_S d_int))))) (d_S (d_ty (by rfl) T.n_str (by decide +kernel))) (nomark _)))))) (ss_one (st_ret d_bl)) ss_nil)
    (ss_cons (st_if (t_cmp (o_eq hr.units) (d_S (d_ix (d_w 2) (d_S d_int))) (d_S d_str) (nomark _)) (ss_one (st_ret (d_and (d_cmp (o_eq hr.units) (d_S (d_cB c_len (by rfl) T.n_len PySem.boot_len (d_w 2))) (d_S d_int) (nomark _)) (d_one (d_callO O_is_worth (hr.mono (by decide)) (by rfl) (tk_of (takes_of rfl rfl rfl rfl)) (a_consE (d_v 1) (a_consE (d_ix (d_w 2) (d_S d_int)) a_nil))))))) ss_nil)
    (ss_cons (st_if (t_w (w_or (t_cmp (o_ne hr.units) (d_S (d_ix (d_w 2) (d_S d_int))) (d_S d_str) (nomark _)) (w_or1 (t_cmp (o_ne hr.units) (d_S (d_cB c_len (by rfl) T.n_len PySem.boot_len (d_w 2))) (d_S d_int) (nomark _))))) (ss_one (st_ret d_bl)) ss_nil)
    (ss_cons (st_asg (d_v 0) (pg_tup rfl (pgs_cons (pg_name (i := 3) sc_is_rule.nd rfl (by first | exact Or.inl rfl | exact Or.inr rfl)) (pgs_cons (pg_name (i := 4) sc_is_rule.nd rfl (by first | exact Or.inl rfl | exact Or.inr rfl)) (pgs_cons (pg_name (i := 5) sc_is_rule.nd rfl (by first | exact Or.inl rfl | exact Or.inr rfl)) pgs_nil)))))
    (ss_cons (st_asg (d_v 2) (pg_tup rfl (pgs_cons (pg_name (i := 5) sc_is_rule.nd rfl (by first | exact Or.inl rfl | exact Or.inr rfl)) (pgs_cons (pg_name (i := 6) sc_is_rule.nd rfl (by first | exact Or.inl rfl | exact Or.inr rfl)) (pgs_cons (pg_name (i := 7) sc_is_rule.nd rfl (by first | exact Or.inl rfl | exact Or.inr rfl)) pgs_nil)))))
    (ss_cons (st_if (t_w (w_or (t_not (t_val (d_callO O_whole (hr.mono (by decide)) (by rfl) (tk_of (takes_of rfl rfl rfl rfl)) (a_consE (d_v 6) (a_consE d_int (a_consE (d_op o_sub (d_w 3) (d_S d_int)) a_nil)))))) (w_or (t_cmp o_tyNot (d_S (d_cT c_type (by rfl) T.n_type (by decide +kernel) (d_w 7))) (d_S (d_ty (by rfl) T.n_tuple (by decide +kernel))) (nomark _)) (w_or1 (t_cmp (o_ne hr.units) (d_S (d_cB c_len (by rfl) T.n_len PySem.boot_len (d_w 7))) (d_S (d_op o_add (d_w 4) (d_S d_int))) (nomark _)))))) (ss_one (st_ret d_bl)) ss_nil)
    (ss_one (st_ret (d_cB (c_all rfl) (by rfl) T.n_all (by decide +kernel) (d_NS (d_lc (own := [("number", 8)]) rfl sc_is_rule.nd (i_seq (d_v 7)) (blkOk_by (own := [("number", 8)]) (N := ["one", "two", "thing", "boxes", "most", "_", "box", "numbers", "number"]) (sc := defScope s_is_rule) (by decide +kernel)) (by decide) (fun _ _ _ _ _ => (asDG (.nm 8) (pg_name (i := 8) sc_is_rule.nd rfl (by first | exact Or.inl rfl | exact Or.inr rfl)))) (fun _ _ _ _ _ => ts_nil) (fun _ _ _ _ _ => (d_callO O_is_worth (hr.mono (by decide)) (by rfl) tk0 (a_consE (d_v 1) (a_consE (d_v 8) a_nil)))))))))))))))
/-! ### is_place -/
abbrev s_is_place : Stmt := topS 28
def b_is_place : FS := (sSeq (sIf (eOr (eB (gTyIs true) (eU gType (eW 2)) (eC (.ty "tuple"))) (eB gNe (eU gLen (eW 2)) (eC (.int 3)))) (sRet (eC (.bl false))) sNx)
  (sSeq (sAsg (.tp [3, 4, 5]) (eV 2))
  (sSeq (sIf (eOr (eNot (eCall 3 m_whole (aCons (eV 3) (aCons (eC (.int 0)) (aCons (eB gSubI (eU gLen (eB gIx (eW 0) (eC (.int 2)))) (eC (.int 1))) aNil))))) (eNot (eCall 3 m_whole (aCons (eV 4) (aCons (eC (.int 0)) (aCons (eB gSubI (eU gLen (eB gIx (eW 1) (eC (.int 2)))) (eC (.int 1))) aNil)))))) (sRet (eC (.bl false))) sNx)
  (sSeq (sIf (eOr (eB (gTyIs true) (eU gType (eW 5)) (eC (.ty "tuple"))) (eB gNe (eU gLen (eW 5)) (eB gIx (eW 1) (eC (.int 0))))) (sRet (eC (.bl false))) sNx)
  (sRet (eU gAll (eComp (iIt (eV 5)) (.nm 6) [6] (eC (.bl true)) (eCall 3 m_is_rule (aCons (eV 0) (aCons (eV 1) (aCons (eV 6) aNil)))))))))))
def m_is_place : Mir := fDef 7 b_is_place
theorem sc_is_place : FnScope ["one", "two", "thing", "row", "other", "rules", "rule"] ["one", "two", "thing"] (defScope s_is_place) := ⟨rfl, rfl, rfl, by decide +kernel, rfl, by decide +kernel, by decide +kernel⟩
theorem ok_is_place (T : Tx w K mg) (A : At K mg "is_place" s_is_place ["one", "two", "thing"]) (O_is_rule : Ok P0 w K mg base 3 "is_rule" 3 m_is_rule) (O_whole : Ok P0 w K mg base 1 "whole" 3 m_whole) : Ok P0 w K mg base 4 "is_place" 3 m_is_place :=
  okO (N := ["one", "two", "thing", "row", "other", "rules", "rule"]) (fs := b_is_place) A sc_is_place rfl rfl fun f cdv A outer s H G E hr =>
    (ss_cons (st_if (t_w (w_or (t_cmp o_tyNot (d_S (d_cT c_type (by rfl) T.n_type (by decide +kernel) (d_w 2))) (d_S (d_ty (by rfl) T.n_tuple (by decide +kernel))) (nomark _)) (w_or1 (t_cmp (o_ne hr.units) (d_S (d_cB c_len (by rfl) T.n_len PySem.boot_len (d_w 2))) (d_S d_int) (nomark _))))) (ss_one (st_ret d_bl)) ss_nil)
    (ss_cons (st_asg (d_v 2) (pg_tup rfl (pgs_cons (pg_name (i := 3) sc_is_place.nd rfl (by first | exact Or.inl rfl | exact Or.inr rfl)) (pgs_cons (pg_name (i := 4) sc_is_place.nd rfl (by first | exact Or.inl rfl | exact Or.inr rfl)) (pgs_cons (pg_name (i := 5) sc_is_place.nd rfl (by first | exact Or.inl rfl | exact Or.inr rfl)) pgs_nil)))))
    (ss_cons (st_if (t_w (w_or (t_not (t_val (d_callO O_whole (hr.mono (by decide)) (by rfl) (tk_of (takes_of rfl rfl rfl rfl)) (a_consE (d_v 3) (a_consE d_int (a_consE (d_op o_sub (d_S (d_cB c_len (by rfl) T.n_len PySem.boot_len (d_S (d_ix (d_w 0) (d_S d_int))))) (d_S d_int)) a_nil)))))) (w_or1 (t_not (t_val (d_callO O_whole (hr.mono (by decide)) (by rfl) (tk_of (takes_of rfl rfl rfl rfl)) (a_consE (d_v 4) (a_consE d_int (a_consE (d_op o_sub (d_S (d_cB c_len (by rfl) T.n_len PySem.boot_len (d_S (d_ix (d_w 1) (d_S d_int))))) (d_S d_int)) a_nil))))))))) (ss_one (st_ret d_bl)) ss_nil)
    (ss_cons (st_if (t_w (w_or (t_cmp o_tyNot (d_S (d_cT c_type (by rfl) T.n_type (by decide +kernel) (d_w 5))) (d_S (d_ty (by rfl) T.n_tuple (by decide +kernel))) (nomark _)) (w_or1 (t_cmp (o_ne hr.units) (d_S (d_cB c_len (by rfl) T.n_len PySem.boot_len (d_w 5))) (d_S (d_ix (d_w 1) (d_S d_int))) (nomark _))))) (ss_one (st_ret d_bl)) ss_nil)
    (ss_one (st_ret (d_cB (c_all rfl) (by rfl) T.n_all (by decide +kernel) (d_NS (d_lc (own := [("rule", 6)]) rfl sc_is_place.nd (i_seq (d_v 5)) (blkOk_by (own := [("rule", 6)]) (N := ["one", "two", "thing", "row", "other", "rules", "rule"]) (sc := defScope s_is_place) (by decide +kernel)) (by decide) (fun _ _ _ _ _ => (asDG (.nm 6) (pg_name (i := 6) sc_is_place.nd rfl (by first | exact Or.inl rfl | exact Or.inr rfl)))) (fun _ _ _ _ _ => ts_nil) (fun _ _ _ _ _ => (d_callO O_is_rule (hr.mono (by decide)) (by rfl) tk0 (a_consE (d_v 0) (a_consE (d_v 1) (a_consE (d_v 6) a_nil))))))))))))))
/-! ### is_places -/
abbrev s_is_places : Stmt := topS 29
def b_is_places : FS := (sSeq (sIf (eOr (eB (gTyIs true) (eU gType (eW 2)) (eC (.ty "list"))) (eB gGt (eU gLen (eW 2)) (eC (.int 20)))) (sRet (eC (.bl false))) sNx)
  (sSeq (sIf (eNot (eU gAll (eComp (iIt (eV 2)) (.nm 3) [3] (eC (.bl true)) (eCall 3 m_is_place (aCons (eV 0) (aCons (eV 1) (aCons (eV 3) aNil))))))) (sRet (eC (.bl false))) sNx)
  (sRet (eB gEq (eSetLen (iIt (eV 2)) (.nm 3) [3] (eC (.bl true)) (eB gIx (eW 3) (eC (.int 0)))) (eU gLen (eW 2))))))
def m_is_places : Mir := fDef 4 b_is_places
theorem sc_is_places : FnScope ["one", "two", "thing", "place"] ["one", "two", "thing"] (defScope s_is_places) := ⟨rfl, rfl, rfl, by decide +kernel, rfl, by decide +kernel, by decide +kernel⟩
theorem ok_is_places (T : Tx w K mg) (A : At K mg "is_places" s_is_places ["one", "two", "thing"]) (O_is_place : Ok P0 w K mg base 4 "is_place" 3 m_is_place) : Ok P0 w K mg base 5 "is_places" 3 m_is_places :=
  okO (N := ["one", "two", "thing", "place"]) (fs := b_is_places) A sc_is_places rfl rfl fun f cdv A outer s H G E hr =>
    (ss_cons (st_if (t_w (w_or (t_cmp o_tyNot (d_S (d_cT c_type (by rfl) T.n_type (by decide +kernel) (d_w 2))) (d_S (d_ty (by rfl) T.n_list (by decide +kernel))) (nomark _)) (w_or1 (t_cmp o_gt (d_S (d_cB c_len (by rfl) T.n_len PySem.boot_len (d_w 2))) (d_S (d_gi T.i_MOST_PLACES (by rfl))) (nomark _))))) (ss_one (st_ret d_bl)) ss_nil)
    (ss_cons (st_if (t_not (t_val (d_cB (c_all rfl) (by rfl) T.n_all (by decide +kernel) (d_NS (d_lc (own := [("place", 3)]) rfl sc_is_places.nd (i_seq (d_v 2)) (blkOk_by (own := [("place", 3)]) (N := ["one", "two", "thing", "place"]) (sc := defScope s_is_places) (by decide +kernel)) (by decide) (fun _ _ _ _ _ => (asDG (.nm 3) (pg_name (i := 3) sc_is_places.nd rfl (by first | exact Or.inl rfl | exact Or.inr rfl)))) (fun _ _ _ _ _ => ts_nil) (fun _ _ _ _ _ => (d_callO O_is_place (hr.mono (by decide)) (by rfl) tk0 (a_consE (d_v 0) (a_consE (d_v 1) (a_consE (d_v 3) a_nil)))))))))) (ss_one (st_ret d_bl)) ss_nil)
    (ss_one (st_ret (d_cmp (o_eq hr.units) (d_S (d_lenSet (own := [("place", 3)]) (by rfl) T.n_len rfl sc_is_places.nd (i_seq (d_v 2)) (blkOk_by (own := [("place", 3)]) (N := ["one", "two", "thing", "place"]) (sc := defScope s_is_places) (by decide +kernel)) (by decide) (fun _ _ _ _ _ => (asDG (.nm 3) (pg_name (i := 3) sc_is_places.nd rfl (by first | exact Or.inl rfl | exact Or.inr rfl)))) (fun _ _ _ _ _ => ts_nil) (fun _ _ _ _ _ => (d_ix (d_w 3) (d_S d_int))))) (d_S (d_cB c_len (by rfl) T.n_len PySem.boot_len (d_w 2))) (nomark _))))))
/-! ### need_places -/
abbrev s_need_places : Stmt := topS 30
def b_need_places : FS := (sSeq (sExp (eCall 1 m_need_program (aCons (eV 0) aNil)))
  (sSeq (sExp (eCall 1 m_need_program (aCons (eV 1) aNil)))
  (sSeq (sIf (eNot (eCall 3 m_is_places (aCons (eV 0) (aCons (eV 1) (aCons (eV 2) aNil))))) (sRaise "BadPlaces") sNx)
  (sRet (eU gList (eW 2))))))
def m_need_places : Mir := fDefN 3 b_need_places
theorem sc_need_places : FnScope ["one", "two", "places"] ["one", "two", "places"] (defScope s_need_places) := ⟨rfl, rfl, rfl, by decide +kernel, rfl, by decide +kernel, by decide +kernel⟩
theorem ok_need_places (T : Tx w K mg) (A : At K mg "need_places" s_need_places ["one", "two", "places"]) (O_is_places : Ok P0 w K mg base 5 "is_places" 3 m_is_places) (O_need_program : Ok P0 w K mg base 4 "need_program" 1 m_need_program) : OkN P0 w K mg base 6 "need_places" 3 m_need_places :=
  okON (N := ["one", "two", "places"]) (fs := b_need_places) A sc_need_places rfl rfl fun f cdv A outer s H G E hr =>
    (ss_cons (st_expr (d_S (d_callO O_need_program (hr.mono (by decide)) (by rfl) (tk_of (takes_of rfl rfl rfl rfl)) (a_consE (d_v 0) a_nil))))
    (ss_cons (st_expr (d_S (d_callO O_need_program (hr.mono (by decide)) (by rfl) (tk_of (takes_of rfl rfl rfl rfl)) (a_consE (d_v 1) a_nil))))
    (ss_cons (st_if (t_not (t_val (d_callO O_is_places (hr.mono (by decide)) (by rfl) (tk_of (takes_of rfl rfl rfl rfl)) (a_consE (d_v 0) (a_consE (d_v 1) (a_consE (d_v 2) a_nil)))))) (ss_one (st_raiseO T.r_BadPlaces rfl (takes_of rfl rfl rfl rfl) (by rfl))) ss_nil)
    (ss_one (st_retNew (d_cT c_list (by rfl) T.n_list (by decide +kernel) (d_w 2)))))))
/-! ### Live_ask -/
abbrev s_Live_ask : Stmt := inClass (topS 42) 2
def b_Live_ask : FS := (sSeq (sIf (eB gIsN' (eFdS 0 "Live" "_state") (eC .non)) (sRaise "Over") sNx)
  (sSeq (sIf (eRd 0 "Live" "waits" g_Live_waits) (sRaise "Busy") sNx)
  (sSeq (sSet 3 (eCall 3 m_need_places (aCons (eFd 0 "Live" "_program") (aCons (eV 1) (aCons (eV 2) aNil)))))
  (sSeq (sSet 4 (eCall 3 m_met (aCons (eFd 0 "Live" "_program") (aCons (eV 3) (aCons (eFd 0 "Live" "_state") aNil)))))
  (sSeq (sIf (eB (gIn false) (eB gIx (eW 4) (eC (.int 0))) (eTup (aCons (eC (.str "stuck")) (aCons (eC (.str "missed")) aNil)))) (sRaiseP "Unsafe" (eV 4)) sNx)
  (sSeq (sFd 0 "Live" "_second" (eCall 1 m_copied (aCons (eV 1) aNil)))
  (sSeq (sFd 0 "Live" "_there" (eCall 1 m_by_row (aCons (eV 3) aNil)))
  (sExpM 0 "Live" "_settle" 1 m_Live__settle aNil))))))))
def m_Live_ask : MirB := fDefB 0 5 b_Live_ask
theorem sc_Live_ask : FnScope ["self", "two", "places", "asked", "shown"] ["self", "two", "places"] (defScope s_Live_ask) := ⟨rfl, rfl, rfl, by decide +kernel, rfl, by decide +kernel, by decide +kernel⟩
theorem ok_Live_ask (T : Tx w K mg) (A : AtM K mg "Live" "ask" "Live.ask" s_Live_ask ["self", "two", "places"]) (O_Live__settle : OkM P0 w K mg base 3 "Live" "_settle" 1 m_Live__settle) (O_Live_waits : OkR P0 w K mg base 1 "Live" "waits" .E g_Live_waits) (O_Unsafe___init__ : UX P0 w K mg base "Unsafe") (O_by_row : Ok P0 w K mg base 1 "by_row" 1 m_by_row) (O_copied : Ok P0 w K mg base 1 "copied" 1 m_copied) (O_met : Ok P0 w K mg base 6 "met" 3 m_met) (O_need_places : OkN P0 w K mg base 6 "need_places" 3 m_need_places) : OkM P0 w K mg base 7 "Live" "ask" 3 m_Live_ask :=
  okOM (N := ["self", "two", "places", "asked", "shown"]) (fs := b_Live_ask) A sc_Live_ask rfl (by decide) rfl fun f cdv A outer s H Hm G a E hr =>
    (ss_cons (st_if (t_cmp o_isN (d_fdS (i := 0) T.k_Live) (d_S d_non) (nomark _)) (ss_one (st_raiseO T.r_Over rfl (takes_of rfl rfl rfl rfl) (by rfl))) ss_nil)
    (ss_cons (st_if (t_val (d_meR (i := 0) O_Live_waits (hr.mono (by decide)) (tk_of (takes_of rfl rfl rfl rfl)))) (ss_one (st_raiseO T.r_Busy rfl (takes_of rfl rfl rfl rfl) (by rfl))) ss_nil)
    (ss_cons (st_set (i := 3) sc_Live_ask.nd rfl (by first | exact Or.inl rfl | exact Or.inr rfl) (d_NE (d_callN O_need_places (hr.mono (by decide)) (by rfl) (tk_of (takes_of rfl rfl rfl rfl)) (a_consE (d_fd (i := 0) T.k_Live) (a_consE (d_v 1) (a_consE (d_v 2) a_nil))))))
    (ss_cons (st_set (i := 4) sc_Live_ask.nd rfl (by first | exact Or.inl rfl | exact Or.inr rfl) (d_callO O_met (hr.mono (by decide)) (by rfl) (tk_of (takes_of rfl rfl rfl rfl)) (a_consE (d_fd (i := 0) T.k_Live) (a_consE (d_v 3) (a_consE (d_fd (i := 0) T.k_Live) a_nil)))))
    (ss_cons (st_if (t_cmp o_in (d_S (d_ix (d_w 4) (d_S d_int))) (d_S (d_tup (a_consE d_str (a_consE d_str a_nil)))) (by rfl)) (ss_one (st_raiseP O_Unsafe___init__ rfl (takes_of rfl rfl rfl rfl) (hr.mono (by decide)) (by rfl) (d_v 4))) ss_nil)
    (ss_cons (st_fd (i := 0) T.k_Live (d_callO O_copied (hr.mono (by decide)) (by rfl) (tk_of (takes_of rfl rfl rfl rfl)) (a_consE (d_v 1) a_nil)))
    (ss_cons (st_fd (i := 0) T.k_Live (d_callO O_by_row (hr.mono (by decide)) (by rfl) (tk_of (takes_of rfl rfl rfl rfl)) (a_consE (d_v 3) a_nil)))
    (ss_one (st_expM0 (j := 0) O_Live__settle (hr.mono (by decide)) (tk_of (takes_of rfl rfl rfl rfl)))))))))))
/-! ### law_shown -/
abbrev s_law_shown : Stmt := topS 51
def b_law_shown : FS := (sSeq (sTry tr0_law_shown 3 (sExpM 0 "Live" "ask" 3 m_Live_ask (aCons (eV 1) (aCons (eV 2) aNil))) (sRetB 0 (eXf 3 "Unsafe")))
  (sRetB 0 (eC .non)))
def m_law_shown : MirB := fDefB 0 4 b_law_shown
theorem sc_law_shown : FnScope ["_law_live", "_law_two", "_law_places_here", "e"] ["_law_live", "_law_two", "_law_places_here"] (defScope s_law_shown) := ⟨rfl, rfl, rfl, by decide +kernel, rfl, by decide +kernel, by decide +kernel⟩
theorem ok_law_shown (T : Tx w K mg) (A : At K mg "_law_shown" s_law_shown ["_law_live", "_law_two", "_law_places_here"]) (O_Live_ask : OkM P0 w K mg base 7 "Live" "ask" 3 m_Live_ask) : OkB P0 w K mg base 8 "_law_shown" 3 0 m_law_shown :=
  okOB (N := ["_law_live", "_law_two", "_law_places_here", "e"]) (fs := b_law_shown) A sc_law_shown rfl (by decide) rfl fun f cdv A outer s H Hm G a E hr =>
    (ss_cons (st_tryO (i := 3) rfl rfl sc_law_shown.nd rfl rfl T.x_Unsafe (by rfl) (takes_of rfl rfl rfl rfl) T.e_tr0_law_shown (fun W' pn xe tkb po => (ss_one (st_expM (j := 0) O_Live_ask (hr.mono (by decide)) (tk_of tkb) (a_consE (d_v 1) (a_consE (d_v 2) a_nil))))) (fun a oe cls d pn hz hf => (ss_one (st_retB 0 (d_xf T.v_Unsafe hz hf (by rfl) (by first | exact Or.inl rfl | exact Or.inr (Or.inl rfl)))))))
    (ss_one (st_retB 0 d_non)))
/-! ### law_states -/
abbrev s_law_states : Stmt := topS 52
def b_law_states : FS := (sSeq (sSet 1 (eU gLen (eB gIx (eW 0) (eC (.int 2)))))
  (sSeq (sFor (iRg (eB gIx (eW 0) (eC (.int 0)))) (.nm 2) (sSet 1 (eB gMul (eW 1) (eB gAdd (eB gIx (eW 0) (eC (.int 1))) (eC (.int 1))))))
  (sRet (eV 1))))
def m_law_states : Mir := fDef 3 b_law_states
theorem sc_law_states : FnScope ["_law_program_here", "_law_many", "_law_box"] ["_law_program_here"] (defScope s_law_states) := ⟨rfl, rfl, rfl, by decide +kernel, rfl, by decide +kernel, by decide +kernel⟩
theorem ok_law_states (T : Tx w K mg) (A : At K mg "_law_states" s_law_states ["_law_program_here"]) : Ok P0 w K mg base 1 "_law_states" 1 m_law_states :=
  okO (N := ["_law_program_here", "_law_many", "_law_box"]) (fs := b_law_states) A sc_law_states rfl rfl fun f cdv A outer s H G E hr =>
    (ss_cons (st_set (i := 1) sc_law_states.nd rfl (by first | exact Or.inl rfl | exact Or.inr rfl) (d_cB c_len (by rfl) T.n_len PySem.boot_len (d_S (d_ix (d_w 0) (d_S d_int)))))
    (ss_cons (st_for (passes_of rfl) rfl (i_rg (by rfl) T.n_range (d_ix (d_w 0) (d_S d_int))) (pg_name (i := 2) sc_law_states.nd rfl (by first | exact Or.inl rfl | exact Or.inr rfl)) (ss_one (st_set (i := 1) sc_law_states.nd rfl (by first | exact Or.inl rfl | exact Or.inr rfl) (d_op o_mul (d_w 1) (d_S (d_op o_add (d_S (d_ix (d_w 0) (d_S d_int))) (d_S d_int)))))))
    (ss_one (st_ret (d_v 1)))))
/-! ### begins -/
abbrev s_begins : Stmt := topS 35
def b_begins : FS := (sSeq (sAsg (.tp [1, 2, 3]) (eCall 1 m_need_program (aCons (eV 0) aNil)))
  (sSeq (sNew 4 (eLst (aCons (eTup aNil) aNil)))
  (sSeq (sFor (iRg (eV 1)) (.nm 3) (sFrz 4 (sNew 4 (eComp2 (iIt (eV 4)) (.nm 5) [5, 6] (iRg (eB gAdd (eW 2) (eC (.int 1)))) (.nm 6) [6] (eB gAdd (eW 5) (eTup (aCons (eV 6) aNil)))))))
  (sRetO 4))))
def m_begins : Mir := fDefN 7 b_begins
theorem sc_begins : FnScope ["program", "boxes", "most", "_", "found", "numbers", "number"] ["program"] (defScope s_begins) := ⟨rfl, rfl, rfl, by decide +kernel, rfl, by decide +kernel, by decide +kernel⟩
theorem ok_begins (T : Tx w K mg) (A : At K mg "begins" s_begins ["program"]) (O_need_program : Ok P0 w K mg base 4 "need_program" 1 m_need_program) : OkN P0 w K mg base 5 "begins" 1 m_begins :=
  okON (N := ["program", "boxes", "most", "_", "found", "numbers", "number"]) (fs := b_begins) A sc_begins rfl rfl fun f cdv A outer s H G E hr =>
    (ss_cons (st_asg (d_callO O_need_program (hr.mono (by decide)) (by rfl) (tk_of (takes_of rfl rfl rfl rfl)) (a_consE (d_v 0) a_nil)) (pg_tup rfl (pgs_cons (pg_name (i := 1) sc_begins.nd rfl (by first | exact Or.inl rfl | exact Or.inr rfl)) (pgs_cons (pg_name (i := 2) sc_begins.nd rfl (by first | exact Or.inl rfl | exact Or.inr rfl)) (pgs_cons (pg_name (i := 3) sc_begins.nd rfl (by first | exact Or.inl rfl | exact Or.inr rfl)) pgs_nil)))))
    (ss_cons (st_new (i := 4) sc_begins.nd rfl (by first | exact Or.inl rfl | exact Or.inr rfl) (d_lst (a_consE (d_tup a_nil) a_nil)))
    (ss_cons (st_for (passes_of rfl) rfl (i_rg (by rfl) T.n_range (d_v 1)) (pg_name (i := 3) sc_begins.nd rfl (by first | exact Or.inl rfl | exact Or.inr rfl)) (ss_one (st_frz 4 (st_newLc2 (own := [("numbers", 5), ("number", 6)]) (i := 4) rfl sc_begins.nd rfl rfl (sw_true rfl rfl rfl (by decide +kernel)) (i_seq (d_v 4)) (blkOk_by (own := [("numbers", 5), ("number", 6)]) (N := ["program", "boxes", "most", "_", "found", "numbers", "number"]) (sc := defScope s_begins) (by decide +kernel)) (vs1 := [6]) (by decide) (by decide) (by decide) (fun _ _ _ _ _ => (asDG (.nm 5) (pg_name (i := 5) sc_begins.nd rfl (by first | exact Or.inl rfl | exact Or.inr rfl)))) (fun _ _ _ _ _ => (i_rg (by rfl) T.n_range (d_op o_add (d_w 2) (d_S d_int)))) (fun _ _ _ _ _ => (asDG (.nm 6) (pg_name (i := 6) sc_begins.nd rfl (by first | exact Or.inl rfl | exact Or.inr rfl)))) (fun _ _ _ _ _ => (d_op o_add (d_w 5) (d_S (d_tup (a_consE (d_v 6) a_nil)))))))))
    (ss_one (st_retO 4)))))
/-! ### unsafe_run -/
abbrev s_unsafe_run : Stmt := topS 38
def b_unsafe_run : FS := (sSeq (sNewDt 4)
  (sSeq (sSet 5 (eTup (aCons (eC (.int 0)) (aCons (eV 2) aNil))))
  (sSeq (sWhile 3000 (eAnd (eB gNotN' (eW 5) (eC .non)) (eAnd (eDtIn true 3 (eV 5)) (eDtIn true 4 (eV 5)))) (sSeq (sIf (eCall 2 m_is_stuck (aCons (eV 1) (aCons (eV 5) aNil))) (sRetB 3 (eTup (aCons (eC (.str "stuck")) (aCons (eV 2) (aCons (eDtLen 4) aNil))))) sNx)
  (sSeq (sDtPut 4 (eV 5) (eDtLen 4))
  (sAsg (.tp [5, 6]) (eCall 2 m_stepped (aCons (eV 0) (aCons (eV 5) aNil)))))))
  (sSeq (sIf (eDtIn false 4 (eV 5)) (sSeq (sSet 7 (eDtGet 4 (eV 5)))
  (sIf (eNot (eU gAny (eComp (iIt (eSl (eDtKeys 4) (oSome (eV 7)) oNone)) (.nm 8) [8] (eC (.bl true)) (eB (gDIn false) (eB gIx (eW 8) (eC (.int 0))) (eW 1))))) (sRetB 3 (eTup (aCons (eC (.str "missed")) (aCons (eV 2) (aCons (eV 7) aNil))))) sNx)) sNx)
  (sSeq (sForD 4 (.nm 8) (sDtPut 3 (eV 8) (eC (.bl true))))
  (sRetB 3 (eC .non)))))))
def m_unsafe_run : MirB := fDefB 3 9 b_unsafe_run
theorem sc_unsafe_run : FnScope ["one", "there", "begin", "fine", "behind", "now", "_", "many", "state"] ["one", "there", "begin", "fine"] (defScope s_unsafe_run) := ⟨rfl, rfl, rfl, by decide +kernel, rfl, by decide +kernel, by decide +kernel⟩
theorem ok_unsafe_run (T : Tx w K mg) (A : At K mg "unsafe_run" s_unsafe_run ["one", "there", "begin", "fine"]) (O_is_stuck : Ok P0 w K mg base 3 "is_stuck" 2 m_is_stuck) (O_stepped : Ok P0 w K mg base 2 "stepped" 2 m_stepped) : OkB P0 w K mg base 4 "unsafe_run" 4 3 m_unsafe_run :=
  okOB (N := ["one", "there", "begin", "fine", "behind", "now", "_", "many", "state"]) (fs := b_unsafe_run) A sc_unsafe_run rfl (by decide) rfl fun f cdv A outer s H Hm G a E hr =>
    (ss_cons (st_newDt (i := 4) sc_unsafe_run.nd rfl (by first | exact Or.inl rfl | exact Or.inr rfl))
    (ss_cons (st_set (i := 5) sc_unsafe_run.nd rfl (by first | exact Or.inl rfl | exact Or.inr rfl) (d_tup (a_consE d_int (a_consE (d_v 2) a_nil))))
    (ss_cons (st_while (n := 3000) (passes_of rfl) (t_w (w_and (t_cmp o_notN (d_w 5) (d_S d_non) (nomark _)) (w_and (t_ndNin (i := 3) hr.units (d_v 5) rfl (by first | exact Or.inl rfl | exact Or.inr (Or.inl rfl) | exact Or.inr (Or.inr rfl))) (w_and1 (t_ndNin (i := 4) hr.units (d_v 5) rfl (by first | exact Or.inl rfl | exact Or.inr (Or.inl rfl) | exact Or.inr (Or.inr rfl))))))) (ss_cons (st_if (t_val (d_callO O_is_stuck (hr.mono (by decide)) (by rfl) (tk_of (takes_of rfl rfl rfl rfl)) (a_consE (d_v 1) (a_consE (d_v 5) a_nil)))) (ss_one (st_retB 3 (d_tup (a_consE d_str (a_consE (d_v 2) (a_consE (d_ndLen (i := 4) (by rfl) T.n_len rfl (by first | exact Or.inl rfl | exact Or.inr (Or.inl rfl) | exact Or.inr (Or.inr rfl))) a_nil)))))) ss_nil)
    (ss_cons (st_ndPut (i := 4) hr.units (d_ndLen (i := 4) (by rfl) T.n_len rfl (by first | exact Or.inl rfl | exact Or.inr (Or.inl rfl) | exact Or.inr (Or.inr rfl))) (d_v 5) rfl (by first | exact Or.inl rfl | exact Or.inr (Or.inl rfl) | exact Or.inr (Or.inr rfl)))
    (ss_one (st_asg (d_callO O_stepped (hr.mono (by decide)) (by rfl) (tk_of (takes_of rfl rfl rfl rfl)) (a_consE (d_v 0) (a_consE (d_v 5) a_nil))) (pg_tup rfl (pgs_cons (pg_name (i := 5) sc_unsafe_run.nd rfl (by first | exact Or.inl rfl | exact Or.inr rfl)) (pgs_cons (pg_name (i := 6) sc_unsafe_run.nd rfl (by first | exact Or.inl rfl | exact Or.inr rfl)) pgs_nil))))))))
    (ss_cons (st_if (t_ndIn (i := 4) hr.units (d_v 5) rfl (by first | exact Or.inl rfl | exact Or.inr (Or.inl rfl) | exact Or.inr (Or.inr rfl))) (ss_cons (st_set (i := 7) sc_unsafe_run.nd rfl (by first | exact Or.inl rfl | exact Or.inr rfl) (d_ndGet (i := 4) hr.units (d_v 5) rfl (by first | exact Or.inl rfl | exact Or.inr (Or.inl rfl) | exact Or.inr (Or.inr rfl))))
    (ss_one (st_if (t_not (t_val (d_cB (c_any rfl) (by rfl) T.n_any (by decide +kernel) (d_NS (d_lc (own := [("state", 8)]) rfl sc_unsafe_run.nd (i_seq (d_sl (d_NS (d_ndList (i := 4) rfl (by rfl) T.n_list rfl (by first | exact Or.inl rfl | exact Or.inr (Or.inl rfl) | exact Or.inr (Or.inr rfl)))) (o_some (d_v 7)) o_none)) (blkOk_by (own := [("state", 8)]) (N := ["one", "there", "begin", "fine", "behind", "now", "_", "many", "state"]) (sc := defScope s_unsafe_run) (by decide +kernel)) (by decide) (fun _ _ _ _ _ => (asDG (.nm 8) (pg_name (i := 8) sc_unsafe_run.nd rfl (by first | exact Or.inl rfl | exact Or.inr rfl)))) (fun _ _ _ _ _ => ts_nil) (fun _ _ _ _ _ => (d_cmp (o_dIn hr.units) (d_S (d_ix (d_w 8) (d_S d_int))) (d_w 1) (by rfl)))))))) (ss_one (st_retB 3 (d_tup (a_consE d_str (a_consE (d_v 2) (a_consE (d_v 7) a_nil)))))) ss_nil))) ss_nil)
    (ss_cons (st_forD 4 (passes_of rfl) rfl (asDG (.nm 8) (pg_name (i := 8) sc_unsafe_run.nd rfl (by first | exact Or.inl rfl | exact Or.inr rfl))) (fun h => (ss_one (st_ndPut (i := 3) hr.units d_bl (d_v 8) rfl (by first | exact Or.inl rfl | exact Or.inr (Or.inl rfl) | exact Or.inr (Or.inr rfl))))))
    (ss_one (st_retB 3 d_non)))))))
/-! ### looked -/
abbrev s_looked : Stmt := topS 39
def b_looked : FS := (sSeq (sSet 3 (eCall 1 m_by_row (aCons (eCall 3 m_need_places (aCons (eV 0) (aCons (eV 1) (aCons (eV 2) aNil)))) aNil)))
  (sSeq (sNewDt 4)
  (sSeq (sFor (iIt (eCall 1 m_begins (aCons (eV 0) aNil))) (.nm 5) (sSeq (sSetB 6 4 4 m_unsafe_run (aCons (eV 0) (aCons (eV 3) (aCons (eV 5) (aCons (eC .non) aNil)))))
  (sIf (eB gNotN' (eW 6) (eC .non)) (sRet (eV 6)) sNx)))
  (sRet (eTup (aCons (eC (.str "safe")) aNil))))))
def m_looked : Mir := fDef 7 b_looked
theorem sc_looked : FnScope ["one", "two", "places", "there", "fine", "begin", "run"] ["one", "two", "places"] (defScope s_looked) := ⟨rfl, rfl, rfl, by decide +kernel, rfl, by decide +kernel, by decide +kernel⟩
theorem ok_looked (T : Tx w K mg) (A : At K mg "looked" s_looked ["one", "two", "places"]) (O_begins : OkN P0 w K mg base 5 "begins" 1 m_begins) (O_by_row : Ok P0 w K mg base 1 "by_row" 1 m_by_row) (O_need_places : OkN P0 w K mg base 6 "need_places" 3 m_need_places) (O_unsafe_run : OkB P0 w K mg base 4 "unsafe_run" 4 3 m_unsafe_run) : Ok P0 w K mg base 7 "looked" 3 m_looked :=
  okO (N := ["one", "two", "places", "there", "fine", "begin", "run"]) (fs := b_looked) A sc_looked rfl rfl fun f cdv A outer s H G E hr =>
    (ss_cons (st_set (i := 3) sc_looked.nd rfl (by first | exact Or.inl rfl | exact Or.inr rfl) (d_callO O_by_row (hr.mono (by decide)) (by rfl) (tk_of (takes_of rfl rfl rfl rfl)) (a_consE (d_NE (d_callN O_need_places (hr.mono (by decide)) (by rfl) (tk_of (takes_of rfl rfl rfl rfl)) (a_consE (d_v 0) (a_consE (d_v 1) (a_consE (d_v 2) a_nil))))) a_nil)))
    (ss_cons (st_newDt (i := 4) sc_looked.nd rfl (by first | exact Or.inl rfl | exact Or.inr rfl))
    (ss_cons (st_for (passes_of rfl) rfl (i_seq (d_NE (d_callN O_begins (hr.mono (by decide)) (by rfl) (tk_of (takes_of rfl rfl rfl rfl)) (a_consE (d_v 0) a_nil)))) (pg_name (i := 5) sc_looked.nd rfl (by first | exact Or.inl rfl | exact Or.inr rfl)) (ss_cons (st_setB (i0 := 6) O_unsafe_run (hr.mono (by decide)) (by rfl) (tk_of (takes_of rfl rfl rfl rfl)) (ab_cons (d_v 0) (ab_cons (d_v 3) (ab_cons (d_v 5) (ab_first 4 a_nil)))) sc_looked.nd rfl (by first | exact Or.inl rfl | exact Or.inr rfl))
    (ss_one (st_if (t_cmp o_notN (d_w 6) (d_S d_non) (nomark _)) (ss_one (st_ret (d_v 6))) ss_nil))))
    (ss_one (st_ret (d_tup (a_consE d_str a_nil)))))))
/-! ### law -/
abbrev s_law : Stmt := topS 54
def b_law : FS := (sSeq (sSet 1 (eCall 1 m_law_program (aCons (eCall 2 m_law_cell_at (aCons (eV 0) (aCons (eC (.int 0)) aNil))) aNil)))
  (sSeq (sSet 2 (eCall 1 m_law_program (aCons (eCall 2 m_law_cell_at (aCons (eV 0) (aCons (eC (.int 1)) aNil))) aNil)))
  (sSeq (sSet 3 (eCall 3 m_law_places (aCons (eCall 2 m_law_cell_at (aCons (eV 0) (aCons (eC (.int 2)) aNil))) (aCons (eV 1) (aCons (eV 2) aNil)))))
  (sSeq (sIf (eB gEq (eB gMod (eB gDiv (eCall 2 m_law_cell_at (aCons (eV 0) (aCons (eC (.int 4)) aNil))) (eC (.int 31))) (eC (.int 3))) (eC (.int 1))) (sSet 3 (eSl (eW 3) oNone (oSome (eC (.int 1))))) sNx)
  (sSeq (sSet 4 (eCall 3 m_looked (aCons (eV 1) (aCons (eV 2) (aCons (eV 3) aNil)))))
  (sSeq (sIf (eB gNe (eW 4) (eTup (aCons (eC (.str "safe")) aNil))) (sSeq (sSetD 5 3 m_law_gone (aCons (eV 1) (aCons (eB gIx (eW 4) (eC (.int 1))) (aCons (eB gIx (eW 4) (eC (.int 2))) aNil))))
  (sSeq (sIf (eB gIsN' (eRd 5 "Live" "state" g_Live_state) (eC .non)) (sRet (eC (.bl false))) sNx)
  (sSeq (sSetB 6 5 3 m_law_shown (aCons (eC .non) (aCons (eV 2) (aCons (eV 3) aNil))))
  (sRet (eAnd (eB gNotN' (eW 6) (eC .non)) (eAnd (eB gEq (eB gIx (eW 6) (eC (.int 0))) (eB gIx (eW 4) (eC (.int 0)))) (eNot (eRd 5 "Live" "waits" g_Live_waits)))))))) sNx)
  (sSeq (sSetD 5 3 m_law_gone (aCons (eV 1) (aCons (eCall 2 m_law_numbers (aCons (eCall 2 m_law_cell_at (aCons (eV 0) (aCons (eC (.int 3)) aNil))) (aCons (eV 1) aNil))) (aCons (eB gMod (eCall 2 m_law_cell_at (aCons (eV 0) (aCons (eC (.int 4)) aNil))) (eC (.int 31))) aNil))))
  (sSeq (sIf (eB gIsN' (eRd 5 "Live" "state" g_Live_state) (eC .non)) (sRet (eC (.bl true))) sNx)
  (sSeq (sIfB 5 3 m_law_shown (aCons (eC .non) (aCons (eV 2) (aCons (eV 3) aNil))) (sRet (eC (.bl false))) sNx)
  (sSeq (sFor (iRg (eCall 1 m_law_states (aCons (eV 1) aNil))) (.nm 7) (sIf (eRd 5 "Live" "waits" g_Live_waits) (sExpM 5 "Live" "go" 1 m_Live_go aNil) sNx))
  (sRet (eAnd (eNot (eRd 5 "Live" "waits" g_Live_waits)) (eOr (eB gIsN' (eRd 5 "Live" "state" g_Live_state) (eC .non)) (eB gEq (eRd 5 "Live" "changed" g_Live_changed) (eC (.int 1))))))))))))))))
def m_law : Mir := fDef 8 b_law
theorem sc_law : FnScope ["_law_script", "_law_one", "_law_two", "_law_places_here", "_law_found", "_law_live", "_law_shown_here", "_law_turn"] ["_law_script"] (defScope s_law) := ⟨rfl, rfl, rfl, by decide +kernel, rfl, by decide +kernel, by decide +kernel⟩
theorem fn_law (T : Tx w K mg) {f : Addr} {fd : FuncData} (F : Fun K "law" "law" s_law f fd) (O_Live_changed : OkR P0 w K mg base 1 "Live" "changed" .E g_Live_changed) (O_Live_go : OkM P0 w K mg base 4 "Live" "go" 1 m_Live_go) (O_Live_state : OkR P0 w K mg base 1 "Live" "state" .E g_Live_state) (O_Live_waits : OkR P0 w K mg base 1 "Live" "waits" .E g_Live_waits) (O_law_cell_at : Ok P0 w K mg base 1 "_law_cell_at" 2 m_law_cell_at) (O_law_gone : OkD P0 w K mg base 7 "_law_gone" 3 m_law_gone) (O_law_numbers : Ok P0 w K mg base 2 "_law_numbers" 2 m_law_numbers) (O_law_places : Ok P0 w K mg base 2 "_law_places" 3 m_law_places) (O_law_program : Ok P0 w K mg base 2 "_law_program" 1 m_law_program) (O_law_shown : OkB P0 w K mg base 8 "_law_shown" 3 0 m_law_shown) (O_law_states : Ok P0 w K mg base 1 "_law_states" 1 m_law_states) (O_looked : Ok P0 w K mg base 7 "looked" 3 m_looked) : FnOk P0 w K mg base (L2.CX P0 w) 9 f fd ["_law_script"] (spD ⟨K, mg⟩ 1 m_law) :=
  def_ok (N := ["_law_script", "_law_one", "_law_two", "_law_places_here", "_law_found", "_law_live", "_law_shown_here", "_law_turn"]) (fs := b_law) F sc_law rfl fun cdv A outer s H G E hr =>
    (ss_cons (st_set (i := 1) sc_law.nd rfl (by first | exact Or.inl rfl | exact Or.inr rfl) (d_callO O_law_program (hr.mono (by decide)) (by rfl) (tk_of (takes_of rfl rfl rfl rfl)) (a_consE (d_callO O_law_cell_at (hr.mono (by decide)) (by rfl) (tk_of (takes_of rfl rfl rfl rfl)) (a_consE (d_v 0) (a_consE d_int a_nil))) a_nil)))
    (ss_cons (st_set (i := 2) sc_law.nd rfl (by first | exact Or.inl rfl | exact Or.inr rfl) (d_callO O_law_program (hr.mono (by decide)) (by rfl) (tk_of (takes_of rfl rfl rfl rfl)) (a_consE (d_callO O_law_cell_at (hr.mono (by decide)) (by rfl) (tk_of (takes_of rfl rfl rfl rfl)) (a_consE (d_v 0) (a_consE d_int a_nil))) a_nil)))
    (ss_cons (st_set (i := 3) sc_law.nd rfl (by first | exact Or.inl rfl | exact Or.inr rfl) (d_callO O_law_places (hr.mono (by decide)) (by rfl) (tk_of (takes_of rfl rfl rfl rfl)) (a_consE (d_callO O_law_cell_at (hr.mono (by decide)) (by rfl) (tk_of (takes_of rfl rfl rfl rfl)) (a_consE (d_v 0) (a_consE d_int a_nil))) (a_consE (d_v 1) (a_consE (d_v 2) a_nil)))))
    (ss_cons (st_if (t_cmp (o_eq hr.units) (d_S (d_op o_mod (d_S (d_op o_div (d_S (d_callO O_law_cell_at (hr.mono (by decide)) (by rfl) (tk_of (takes_of rfl rfl rfl rfl)) (a_consE (d_v 0) (a_consE d_int a_nil)))) (d_S d_int))) (d_S d_int))) (d_S d_int) (nomark _)) (ss_one (st_set (i := 3) sc_law.nd rfl (by first | exact Or.inl rfl | exact Or.inr rfl) (d_sl (d_w 3) o_none (o_some d_int)))) ss_nil)
    (ss_cons (st_set (i := 4) sc_law.nd rfl (by first | exact Or.inl rfl | exact Or.inr rfl) (d_callO O_looked (hr.mono (by decide)) (by rfl) (tk_of (takes_of rfl rfl rfl rfl)) (a_consE (d_v 1) (a_consE (d_v 2) (a_consE (d_v 3) a_nil)))))
    (ss_cons (st_if (t_cmp (o_ne hr.units) (d_w 4) (d_S (d_tup (a_consE d_str a_nil))) (nomark _)) (ss_cons (st_setD (i := 5) O_law_gone (hr.mono (by decide)) (by rfl) (tk_of (takes_of rfl rfl rfl rfl)) (a_consE (d_v 1) (a_consE (d_ix (d_w 4) (d_S d_int)) (a_consE (d_ix (d_w 4) (d_S d_int)) a_nil))) sc_law.nd rfl (by first | exact Or.inl rfl | exact Or.inr rfl))
    (ss_cons (st_if (t_cmp o_isN (d_S (d_meR (i := 5) O_Live_state (hr.mono (by decide)) (tk_of (takes_of rfl rfl rfl rfl)))) (d_S d_non) (nomark _)) (ss_one (st_ret d_bl)) ss_nil)
    (ss_cons (st_setB (i0 := 6) O_law_shown (hr.mono (by decide)) (by rfl) (tk_of (takes_of rfl rfl rfl rfl)) (ab_first 5 (a_consE (d_v 2) (a_consE (d_v 3) a_nil))) sc_law.nd rfl (by first | exact Or.inl rfl | exact Or.inr rfl))
    (ss_one (st_ret (d_and (d_cmp o_notN (d_w 6) (d_S d_non) (nomark _)) (d_and (d_cmp (o_eq hr.units) (d_S (d_ix (d_w 6) (d_S d_int))) (d_S (d_ix (d_w 4) (d_S d_int))) (nomark _)) (d_one (d_not (d_meR (i := 5) O_Live_waits (hr.mono (by decide)) (tk_of (takes_of rfl rfl rfl rfl)))))))))))) ss_nil)
    (ss_cons (st_setD (i := 5) O_law_gone (hr.mono (by decide)) (by rfl) (tk_of (takes_of rfl rfl rfl rfl)) (a_consE (d_v 1) (a_consE (d_callO O_law_numbers (hr.mono (by decide)) (by rfl) (tk_of (takes_of rfl rfl rfl rfl)) (a_consE (d_callO O_law_cell_at (hr.mono (by decide)) (by rfl) (tk_of (takes_of rfl rfl rfl rfl)) (a_consE (d_v 0) (a_consE d_int a_nil))) (a_consE (d_v 1) a_nil))) (a_consE (d_op o_mod (d_S (d_callO O_law_cell_at (hr.mono (by decide)) (by rfl) (tk_of (takes_of rfl rfl rfl rfl)) (a_consE (d_v 0) (a_consE d_int a_nil)))) (d_S d_int)) a_nil))) sc_law.nd rfl (by first | exact Or.inl rfl | exact Or.inr rfl))
    (ss_cons (st_if (t_cmp o_isN (d_S (d_meR (i := 5) O_Live_state (hr.mono (by decide)) (tk_of (takes_of rfl rfl rfl rfl)))) (d_S d_non) (nomark _)) (ss_one (st_ret d_bl)) ss_nil)
    (ss_cons (st_ifB O_law_shown (hr.mono (by decide)) (by rfl) (tk_of (takes_of rfl rfl rfl rfl)) (ab_first 5 (a_consE (d_v 2) (a_consE (d_v 3) a_nil))) (ss_one (st_ret d_bl)) ss_nil)
    (ss_cons (st_for (passes_of rfl) rfl (i_rg (by rfl) T.n_range (d_callO O_law_states (hr.mono (by decide)) (by rfl) (tk_of (takes_of rfl rfl rfl rfl)) (a_consE (d_v 1) a_nil))) (pg_name (i := 7) sc_law.nd rfl (by first | exact Or.inl rfl | exact Or.inr rfl)) (ss_one (st_if (t_val (d_meR (i := 5) O_Live_waits (hr.mono (by decide)) (tk_of (takes_of rfl rfl rfl rfl)))) (ss_one (st_expM0 (j := 5) O_Live_go (hr.mono (by decide)) (tk_of (takes_of rfl rfl rfl rfl)))) ss_nil)))
    (ss_one (st_ret (d_and (d_not (d_meR (i := 5) O_Live_waits (hr.mono (by decide)) (tk_of (takes_of rfl rfl rfl rfl)))) (d_one (d_or (d_cmp o_isN (d_S (d_meR (i := 5) O_Live_state (hr.mono (by decide)) (tk_of (takes_of rfl rfl rfl rfl)))) (d_S d_non) (nomark _)) (d_one (d_cmp (o_eq hr.units) (d_S (d_meR (i := 5) O_Live_changed (hr.mono (by decide)) (tk_of (takes_of rfl rfl rfl rfl)))) (d_S d_int) (nomark _))))))))))))))))))
end
end K11

namespace K11
open PySem PySem.Spec PyProof.Rows L2 Evl VS
def d_Live_changed : He.DefD := ⟨("Live", some "changed"), "changed", "Live.changed", defArgs s_Live_changed, defBody s_Live_changed, defScope s_Live_changed, [], []⟩
def d_Live__wait_for_none : He.DefD := ⟨("Live", some "_wait_for_none"), "_wait_for_none", "Live._wait_for_none", defArgs s_Live__wait_for_none, defBody s_Live__wait_for_none, defScope s_Live__wait_for_none, [], []⟩
def d_Live_waits : He.DefD := ⟨("Live", some "waits"), "waits", "Live.waits", defArgs s_Live_waits, defBody s_Live_waits, defScope s_Live_waits, [], []⟩
def d_worth : He.DefD := ⟨("worth", none), "worth", "worth", defArgs s_worth, defBody s_worth, defScope s_worth, [], []⟩
def d_turned : He.DefD := ⟨("turned", none), "turned", "turned", defArgs s_turned, defBody s_turned, defScope s_turned, [], []⟩
def d_Live__settle : He.DefD := ⟨("Live", some "_settle"), "_settle", "Live._settle", defArgs s_Live__settle, defBody s_Live__settle, defScope s_Live__settle, [], []⟩
def d_replaced : He.DefD := ⟨("replaced", none), "replaced", "replaced", defArgs s_replaced, defBody s_replaced, defScope s_replaced, [], []⟩
def d_written : He.DefD := ⟨("written", none), "written", "written", defArgs s_written, defBody s_written, defScope s_written, [], []⟩
def d_stepped : He.DefD := ⟨("stepped", none), "stepped", "stepped", defArgs s_stepped, defBody s_stepped, defScope s_stepped, [], []⟩
def d_Live_go : He.DefD := ⟨("Live", some "go"), "go", "Live.go", defArgs s_Live_go, defBody s_Live_go, defScope s_Live_go, [], []⟩
def d_Live_state : He.DefD := ⟨("Live", some "state"), "state", "Live.state", defArgs s_Live_state, defBody s_Live_state, defScope s_Live_state, [], []⟩
def d_law_cell_at : He.DefD := ⟨("_law_cell_at", none), "_law_cell_at", "_law_cell_at", defArgs s_law_cell_at, defBody s_law_cell_at, defScope s_law_cell_at, [], []⟩
def d_copied : He.DefD := ⟨("copied", none), "copied", "copied", defArgs s_copied, defBody s_copied, defScope s_copied, [], []⟩
def d_whole : He.DefD := ⟨("whole", none), "whole", "whole", defArgs s_whole, defBody s_whole, defScope s_whole, [], []⟩
def d_is_numbers : He.DefD := ⟨("is_numbers", none), "is_numbers", "is_numbers", defArgs s_is_numbers, defBody s_is_numbers, defScope s_is_numbers, [], []⟩
def d_is_row : He.DefD := ⟨("is_row", none), "is_row", "is_row", defArgs s_is_row, defBody s_is_row, defScope s_is_row, [], []⟩
def d_is_program : He.DefD := ⟨("is_program", none), "is_program", "is_program", defArgs s_is_program, defBody s_is_program, defScope s_is_program, [], []⟩
def d_need_program : He.DefD := ⟨("need_program", none), "need_program", "need_program", defArgs s_need_program, defBody s_need_program, defScope s_need_program, [], []⟩
def d_Live___init__ : He.DefD := ⟨("Live", some "__init__"), "__init__", "Live.__init__", defArgs s_Live___init__, defBody s_Live___init__, defScope s_Live___init__, [], []⟩
def d_law_gone : He.DefD := ⟨("_law_gone", none), "_law_gone", "_law_gone", defArgs s_law_gone, defBody s_law_gone, defScope s_law_gone, [], []⟩
def d_law_next : He.DefD := ⟨("_law_next", none), "_law_next", "_law_next", defArgs s_law_next, defBody s_law_next, defScope s_law_next, [], []⟩
def d_law_numbers : He.DefD := ⟨("_law_numbers", none), "_law_numbers", "_law_numbers", defArgs s_law_numbers, defBody s_law_numbers, defScope s_law_numbers, [], []⟩
def d_law_rule : He.DefD := ⟨("_law_rule", none), "_law_rule", "_law_rule", defArgs s_law_rule, defBody s_law_rule, defScope s_law_rule, [], []⟩
def d_law_places : He.DefD := ⟨("_law_places", none), "_law_places", "_law_places", defArgs s_law_places, defBody s_law_places, defScope s_law_places, [], []⟩
def d_law_row : He.DefD := ⟨("_law_row", none), "_law_row", "_law_row", defArgs s_law_row, defBody s_law_row, defScope s_law_row, [], []⟩
def d_law_program : He.DefD := ⟨("_law_program", none), "_law_program", "_law_program", defArgs s_law_program, defBody s_law_program, defScope s_law_program, [], []⟩
def d_Unsafe___init__ : He.DefD := ⟨("Unsafe", some "__init__"), "__init__", "Unsafe.__init__", defArgs s_Unsafe___init__, defBody s_Unsafe___init__, defScope s_Unsafe___init__, [], []⟩
def d_by_row : He.DefD := ⟨("by_row", none), "by_row", "by_row", defArgs s_by_row, defBody s_by_row, defScope s_by_row, [], []⟩
def d_is_stuck : He.DefD := ⟨("is_stuck", none), "is_stuck", "is_stuck", defArgs s_is_stuck, defBody s_is_stuck, defScope s_is_stuck, [], []⟩
def d_is_state : He.DefD := ⟨("is_state", none), "is_state", "is_state", defArgs s_is_state, defBody s_is_state, defScope s_is_state, [], []⟩
def d_need_state : He.DefD := ⟨("need_state", none), "need_state", "need_state", defArgs s_need_state, defBody s_need_state, defScope s_need_state, [], []⟩
def d_met : He.DefD := ⟨("met", none), "met", "met", defArgs s_met, defBody s_met, defScope s_met, [], []⟩
def d_is_worth : He.DefD := ⟨("is_worth", none), "is_worth", "is_worth", defArgs s_is_worth, defBody s_is_worth, defScope s_is_worth, [], []⟩
def d_is_rule : He.DefD := ⟨("is_rule", none), "is_rule", "is_rule", defArgs s_is_rule, defBody s_is_rule, defScope s_is_rule, [], []⟩
def d_is_place : He.DefD := ⟨("is_place", none), "is_place", "is_place", defArgs s_is_place, defBody s_is_place, defScope s_is_place, [], []⟩
def d_is_places : He.DefD := ⟨("is_places", none), "is_places", "is_places", defArgs s_is_places, defBody s_is_places, defScope s_is_places, [], []⟩
def d_need_places : He.DefD := ⟨("need_places", none), "need_places", "need_places", defArgs s_need_places, defBody s_need_places, defScope s_need_places, [], []⟩
def d_Live_ask : He.DefD := ⟨("Live", some "ask"), "ask", "Live.ask", defArgs s_Live_ask, defBody s_Live_ask, defScope s_Live_ask, [], []⟩
def d_law_shown : He.DefD := ⟨("_law_shown", none), "_law_shown", "_law_shown", defArgs s_law_shown, defBody s_law_shown, defScope s_law_shown, [], []⟩
def d_law_states : He.DefD := ⟨("_law_states", none), "_law_states", "_law_states", defArgs s_law_states, defBody s_law_states, defScope s_law_states, [], []⟩
def d_begins : He.DefD := ⟨("begins", none), "begins", "begins", defArgs s_begins, defBody s_begins, defScope s_begins, [], []⟩
def d_unsafe_run : He.DefD := ⟨("unsafe_run", none), "unsafe_run", "unsafe_run", defArgs s_unsafe_run, defBody s_unsafe_run, defScope s_unsafe_run, [], []⟩
def d_looked : He.DefD := ⟨("looked", none), "looked", "looked", defArgs s_looked, defBody s_looked, defScope s_looked, [], []⟩
def d_law : He.DefD := ⟨("law", none), "law", "law", defArgs s_law, defBody s_law, defScope s_law, [], []⟩
def fns : List He.DefD := [d_Live_changed, d_Live__wait_for_none, d_Live_waits, d_worth, d_turned, d_Live__settle, d_replaced, d_written, d_stepped, d_Live_go, d_Live_state, d_law_cell_at, d_copied, d_whole, d_is_numbers, d_is_row, d_is_program, d_need_program, d_Live___init__, d_law_gone, d_law_next, d_law_numbers, d_law_rule, d_law_places, d_law_row, d_law_program, d_Unsafe___init__, d_by_row, d_is_stuck, d_is_state, d_need_state, d_met, d_is_worth, d_is_rule, d_is_place, d_is_places, d_need_places, d_Live_ask, d_law_shown, d_law_states, d_begins, d_unsafe_run, d_looked, d_law]
def fas : List He.Fa := [.free "all", .free "any", .free "enumerate", .free "int", .free "len", .free "list", .free "range", .free "str", .free "tuple", .free "type", .int "MOST_BOXES" 3, .int "HIGHEST_MOST" 4, .int "MOST_ROWS" 20, .int "MOST_PLACES" 20, .glo "PARTS", .glo "BadPlaces", .exc "BadPlaces", .glo "BadProgram", .exc "BadProgram", .glo "BadState", .exc "BadState", .glo "Busy", .exc "Busy", .glo "Over", .exc "Over", .glo "Unsafe", .noat "Live" "_there", .noat "Live" "_second", .noat "Live" "_changed", .noat "Live" "_said", .noat "Live" "_state", .noat "Live" "_program", .glo "Live", .cls "Live", .meth "Live" "changed", .meth "Live" "_wait_for_none", .meth "Live" "waits", .meth "Live" "_settle", .meth "Live" "go", .meth "Live" "state", .mkr "Live", .meth "Live" "ask", .exm "Unsafe" "Unsafe" true, .glo "worth", .glo "turned", .glo "replaced", .glo "written", .glo "stepped", .glo "_law_cell_at", .glo "copied", .glo "whole", .glo "is_numbers", .glo "is_row", .glo "is_program", .glo "need_program", .glo "_law_gone", .glo "_law_next", .glo "_law_numbers", .glo "_law_rule", .glo "_law_places", .glo "_law_row", .glo "_law_program", .glo "by_row", .glo "is_stuck", .glo "is_state", .glo "need_state", .glo "met", .glo "is_worth", .glo "is_rule", .glo "is_place", .glo "is_places", .glo "need_places", .glo "_law_shown", .glo "_law_states", .glo "begins", .glo "unsafe_run", .glo "looked", .glo "law"]
def xas : List Xa := [.tab "PARTS" tbl_PARTS miss_PARTS]
def xbs : List Xb := [.xf "Unsafe", .oex "Unsafe"]
def tss : List He.Tab := [(fun K => He.ga K "PARTS", ["put", "more", "copy", "tell", "go", "ask", "stop"])]
abbrev R : PySem.W.OpenRow := PySem.W.OpenLaw.row PySem.Challenge.rw_liveswap_k11_whole_safe_ones_come
abbrev hk : PySem.W.Hook := He.hookX 5 fas fns tss [] (exAB xas xbs)
def ob (s : PySem.W.SharedT) : He.AlX := He.obsX 5 fas fns tss [] (exAB xas xbs) (HandSHeadRun.getT s)
theorem ob_eq (s : PySem.W.SharedT) : ob s = hk.obs s.abs := He.obsX_eq (HandSHeadRun.getT_eq s)
def loo0 : List Str := ["_wall", "__name__", "SwapError", "BadProgram", "BadState", "BadPlaces", "Busy", "Over", "Unsafe", "MOST_BOXES", "HIGHEST_MOST", "MOST_ROWS", "PARTS", "whole", "is_row", "is_program", "is_numbers", "is_state", "need_program", "need_state", "written", "replaced", "stepped", "MOST_PLACES", "is_worth", "is_rule", "is_place", "is_places", "need_places", "by_row"]
def loo1 : List Str := ["worth", "turned", "begins", "is_stuck", "met", "unsafe_run", "looked", "copied", "Live", "_law_cell_at", "_law_next", "_law_row", "_law_program", "_law_rule", "_law_places", "_law_numbers", "_law_shown", "_law_states", "_law_gone"]
abbrev loose : List Str := loo0 ++ loo1
abbrev lawAt : Nat := 54
theorem tx_of {w : World} {K : PySem.W.Frag} {mg : Str → Option Value} {h : Heap} (X : K.In h) (G : h.Ns mainGlobals mg) (hf : ∀ (i : Nat) (z : He.Fa), fas[i]? = some z → z.ok K = true) (hx : ∀ (i : Nat) (z : Xa), xas[i]? = some z → z.ok K = true) (hy : ∀ (i : Nat) (z : Xb), xbs[i]? = some z → z.ok K = true) (ht : ∀ (i : Nat) (t : He.Tab), tss[i]? = some t → ∃ es n, KDict K w (t.1 K) es n) : Tx w K mg where
  n_all := He.free_ok X G (hf 0 _ rfl)
  n_any := He.free_ok X G (hf 1 _ rfl)
  n_enumerate := He.free_ok X G (hf 2 _ rfl)
  n_int := He.free_ok X G (hf 3 _ rfl)
  n_len := He.free_ok X G (hf 4 _ rfl)
  n_list := He.free_ok X G (hf 5 _ rfl)
  n_range := He.free_ok X G (hf 6 _ rfl)
  n_str := He.free_ok X G (hf 7 _ rfl)
  n_tuple := He.free_ok X G (hf 8 _ rfl)
  n_type := He.free_ok X G (hf 9 _ rfl)
  i_MOST_BOXES := He.int_ok X G (hf 10 _ rfl)
  i_HIGHEST_MOST := He.int_ok X G (hf 11 _ rfl)
  i_MOST_ROWS := He.int_ok X G (hf 12 _ rfl)
  i_MOST_PLACES := He.int_ok X G (hf 13 _ rfl)
  g_PARTS := gd_of (C := ⟨K, mg⟩) X G (hf 14 _ rfl) (ht 0 _ rfl) (hx 0 _ rfl)
  r_BadPlaces := xc_of X G (hf 15 _ rfl) (hf 16 _ rfl)
  r_BadProgram := xc_of X G (hf 17 _ rfl) (hf 18 _ rfl)
  r_BadState := xc_of X G (hf 19 _ rfl) (hf 20 _ rfl)
  r_Busy := xc_of X G (hf 21 _ rfl) (hf 22 _ rfl)
  r_Over := xc_of X G (hf 23 _ rfl) (hf 24 _ rfl)
  x_Unsafe := cl_of X G (hf 25 _ rfl)
  k_Live := clo_of X G (hf 32 _ rfl) (hf 33 _ rfl) (List.forall_mem_cons.mpr ⟨(hf 31 _ rfl), (List.forall_mem_cons.mpr ⟨(hf 30 _ rfl), (List.forall_mem_cons.mpr ⟨(hf 29 _ rfl), (List.forall_mem_cons.mpr ⟨(hf 28 _ rfl), (List.forall_mem_cons.mpr ⟨(hf 27 _ rfl), (List.forall_mem_cons.mpr ⟨(hf 26 _ rfl), (fun _ m => nomatch m)⟩)⟩)⟩)⟩)⟩)⟩)
  v_Unsafe := xf_of X G (hf 25 _ rfl) (hy 0 _ rfl)
  e_tr0_law_shown := fx_of X G (hf 25 _ rfl) (fun y b s => by
    unfold tr0_law_shown at s
    split at s
    next e => subst e; cases s; exact ⟨(hf 25 _ rfl), (hf 42 _ rfl)⟩
    cases s)
theorem ok_all {w : World} {K : PySem.W.Frag} {mg : Str → Option Value} {h base : Heap} (X : K.In h) (G : h.Ns mainGlobals mg) (hf : ∀ (i : Nat) (z : He.Fa), fas[i]? = some z → z.ok K = true) (hx : ∀ (i : Nat) (z : Xa), xas[i]? = some z → z.ok K = true) (hy : ∀ (i : Nat) (z : Xb), xbs[i]? = some z → z.ok K = true) (ht : ∀ (i : Nat) (t : He.Tab), tss[i]? = some t → ∃ es n, KDict K w (t.1 K) es n)
    (hd : ∀ (i : Nat) (d : He.DefD), fns[i]? = some d → ∃ fd, FunD K d.name d.qual d.params d.body d.scope (d.dvs K) (d.kws K) (He.fAd K d.at_) fd) {f : Addr} {fd : FuncData} (FL : Fun K "law" "law" s_law f fd) : FnOk P0 w K mg base (L2.CX P0 w) 9 f fd ["_law_script"] (spD ⟨K, mg⟩ 1 m_law) := by
  have T : Tx w K mg := tx_of X G hf hx hy ht
  have A_Live_changed : AtM K mg "Live" "changed" "Live.changed" s_Live_changed ["self"] := atm_of X G (hf 32 _ rfl) (hf 33 _ rfl) (hf 34 _ rfl) (hd 0 d_Live_changed rfl) fun _ _ _ _ _ _ us hl => match us, hl with | [_], _ => rfl
  have O_Live_changed : OkR P0 w K mg base 1 "Live" "changed" .E g_Live_changed := ok_Live_changed T A_Live_changed
  have A_Live__wait_for_none : AtM K mg "Live" "_wait_for_none" "Live._wait_for_none" s_Live__wait_for_none ["self"] := atm_of X G (hf 32 _ rfl) (hf 33 _ rfl) (hf 35 _ rfl) (hd 1 d_Live__wait_for_none rfl) fun _ _ _ _ _ _ us hl => match us, hl with | [_], _ => rfl
  have O_Live__wait_for_none : OkM P0 w K mg base 1 "Live" "_wait_for_none" 1 m_Live__wait_for_none := ok_Live__wait_for_none T A_Live__wait_for_none
  have A_Live_waits : AtM K mg "Live" "waits" "Live.waits" s_Live_waits ["self"] := atm_of X G (hf 32 _ rfl) (hf 33 _ rfl) (hf 36 _ rfl) (hd 2 d_Live_waits rfl) fun _ _ _ _ _ _ us hl => match us, hl with | [_], _ => rfl
  have O_Live_waits : OkR P0 w K mg base 1 "Live" "waits" .E g_Live_waits := ok_Live_waits T A_Live_waits
  have A_worth : At K mg "worth" s_worth ["rule", "numbers"] := at_of X G (hf 43 _ rfl) (hd 3 d_worth rfl) fun _ _ _ _ _ _ us hl => match us, hl with | [_, _], _ => rfl
  have O_worth : Ok P0 w K mg base 1 "worth" 2 m_worth := ok_worth T A_worth
  have A_turned : At K mg "turned" s_turned ["rules", "numbers"] := at_of X G (hf 44 _ rfl) (hd 4 d_turned rfl) fun _ _ _ _ _ _ us hl => match us, hl with | [_, _], _ => rfl
  have O_turned : Ok P0 w K mg base 2 "turned" 2 m_turned := ok_turned T A_turned O_worth
  have A_Live__settle : AtM K mg "Live" "_settle" "Live._settle" s_Live__settle ["self"] := atm_of X G (hf 32 _ rfl) (hf 33 _ rfl) (hf 37 _ rfl) (hd 5 d_Live__settle rfl) fun _ _ _ _ _ _ us hl => match us, hl with | [_], _ => rfl
  have O_Live__settle : OkM P0 w K mg base 3 "Live" "_settle" 1 m_Live__settle := ok_Live__settle T A_Live__settle O_Live__wait_for_none O_Live_waits O_turned
  have A_replaced : At K mg "replaced" s_replaced ["numbers", "box", "number"] := at_of X G (hf 45 _ rfl) (hd 6 d_replaced rfl) fun _ _ _ _ _ _ us hl => match us, hl with | [_, _, _], _ => rfl
  have O_replaced : Ok P0 w K mg base 1 "replaced" 3 m_replaced := ok_replaced T A_replaced
  have A_written : At K mg "written" s_written ["most", "row", "numbers"] := at_of X G (hf 46 _ rfl) (hd 7 d_written rfl) fun _ _ _ _ _ _ us hl => match us, hl with | [_, _, _], _ => rfl
  have O_written : Ok P0 w K mg base 1 "written" 3 m_written := ok_written T A_written
  have A_stepped : At K mg "stepped" s_stepped ["program", "state"] := at_of X G (hf 47 _ rfl) (hd 8 d_stepped rfl) fun _ _ _ _ _ _ us hl => match us, hl with | [_, _], _ => rfl
  have O_stepped : Ok P0 w K mg base 2 "stepped" 2 m_stepped := ok_stepped T A_stepped O_replaced O_written
  have A_Live_go : AtM K mg "Live" "go" "Live.go" s_Live_go ["self"] := atm_of X G (hf 32 _ rfl) (hf 33 _ rfl) (hf 38 _ rfl) (hd 9 d_Live_go rfl) fun _ _ _ _ _ _ us hl => match us, hl with | [_], _ => rfl
  have O_Live_go : OkM P0 w K mg base 4 "Live" "go" 1 m_Live_go := ok_Live_go T A_Live_go O_Live__settle O_stepped
  have A_Live_state : AtM K mg "Live" "state" "Live.state" s_Live_state ["self"] := atm_of X G (hf 32 _ rfl) (hf 33 _ rfl) (hf 39 _ rfl) (hd 10 d_Live_state rfl) fun _ _ _ _ _ _ us hl => match us, hl with | [_], _ => rfl
  have O_Live_state : OkR P0 w K mg base 1 "Live" "state" .E g_Live_state := ok_Live_state T A_Live_state
  have A_law_cell_at : At K mg "_law_cell_at" s_law_cell_at ["_law_script", "_law_k"] := at_of X G (hf 48 _ rfl) (hd 11 d_law_cell_at rfl) fun _ _ _ _ _ _ us hl => match us, hl with | [_, _], _ => rfl
  have O_law_cell_at : Ok P0 w K mg base 1 "_law_cell_at" 2 m_law_cell_at := ok_law_cell_at T A_law_cell_at
  have A_copied : At K mg "copied" s_copied ["program"] := at_of X G (hf 49 _ rfl) (hd 12 d_copied rfl) fun _ _ _ _ _ _ us hl => match us, hl with | [_], _ => rfl
  have O_copied : Ok P0 w K mg base 1 "copied" 1 m_copied := ok_copied T A_copied
  have A_whole : At K mg "whole" s_whole ["thing", "low", "high"] := at_of X G (hf 50 _ rfl) (hd 13 d_whole rfl) fun _ _ _ _ _ _ us hl => match us, hl with | [_, _, _], _ => rfl
  have O_whole : Ok P0 w K mg base 1 "whole" 3 m_whole := ok_whole T A_whole
  have A_is_numbers : At K mg "is_numbers" s_is_numbers ["program", "thing"] := at_of X G (hf 51 _ rfl) (hd 14 d_is_numbers rfl) fun _ _ _ _ _ _ us hl => match us, hl with | [_, _], _ => rfl
  have O_is_numbers : Ok P0 w K mg base 2 "is_numbers" 2 m_is_numbers := ok_is_numbers T A_is_numbers O_whole
  have A_is_row : At K mg "is_row" s_is_row ["thing", "boxes", "most", "many"] := at_of X G (hf 52 _ rfl) (hd 15 d_is_row rfl) fun _ _ _ _ _ _ us hl => match us, hl with | [_, _, _, _], _ => rfl
  have O_is_row : Ok P0 w K mg base 2 "is_row" 4 m_is_row := ok_is_row T A_is_row O_whole
  have A_is_program : At K mg "is_program" s_is_program ["thing"] := at_of X G (hf 53 _ rfl) (hd 16 d_is_program rfl) fun _ _ _ _ _ _ us hl => match us, hl with | [_], _ => rfl
  have O_is_program : Ok P0 w K mg base 3 "is_program" 1 m_is_program := ok_is_program T A_is_program O_is_row O_whole
  have A_need_program : At K mg "need_program" s_need_program ["thing"] := at_of X G (hf 54 _ rfl) (hd 17 d_need_program rfl) fun _ _ _ _ _ _ us hl => match us, hl with | [_], _ => rfl
  have O_need_program : Ok P0 w K mg base 4 "need_program" 1 m_need_program := ok_need_program T A_need_program O_is_program
  have A_Live___init__ : AtC K mg "Live" "Live.__init__" s_Live___init__ ["self", "program", "begin"] := atc_of X G (hf 32 _ rfl) (hf 40 _ rfl) (hd 18 d_Live___init__ rfl) fun _ _ _ _ _ _ us hl => match us, hl with | [_, _, _], _ => rfl
  have O_Live___init__ : OkC P0 w K mg base 5 "Live" 3 m_Live___init__ := ok_Live___init__ T A_Live___init__ O_copied O_is_numbers O_need_program
  have A_law_gone : At K mg "_law_gone" s_law_gone ["_law_program_here", "_law_begin", "_law_many"] := at_of X G (hf 55 _ rfl) (hd 19 d_law_gone rfl) fun _ _ _ _ _ _ us hl => match us, hl with | [_, _, _], _ => rfl
  have O_law_gone : OkD P0 w K mg base 7 "_law_gone" 3 m_law_gone := ok_law_gone T A_law_gone O_Live___init__ O_Live_go
  have A_law_next : At K mg "_law_next" s_law_next ["_law_seed"] := at_of X G (hf 56 _ rfl) (hd 20 d_law_next rfl) fun _ _ _ _ _ _ us hl => match us, hl with | [_], _ => rfl
  have O_law_next : Ok P0 w K mg base 1 "_law_next" 1 m_law_next := ok_law_next T A_law_next
  have A_law_numbers : At K mg "_law_numbers" s_law_numbers ["_law_seed", "_law_program_here"] := at_of X G (hf 57 _ rfl) (hd 21 d_law_numbers rfl) fun _ _ _ _ _ _ us hl => match us, hl with | [_, _], _ => rfl
  have O_law_numbers : Ok P0 w K mg base 2 "_law_numbers" 2 m_law_numbers := ok_law_numbers T A_law_numbers O_law_next
  have A_law_rule : At K mg "_law_rule" s_law_rule ["_law_seed", "_law_one", "_law_two"] := at_of X G (hf 58 _ rfl) (hd 22 d_law_rule rfl) fun _ _ _ _ _ _ us hl => match us, hl with | [_, _, _], _ => rfl
  have O_law_rule : Ok P0 w K mg base 1 "_law_rule" 3 m_law_rule := ok_law_rule T A_law_rule
  have A_law_places : At K mg "_law_places" s_law_places ["_law_cell", "_law_one", "_law_two"] := at_of X G (hf 59 _ rfl) (hd 23 d_law_places rfl) fun _ _ _ _ _ _ us hl => match us, hl with | [_, _, _], _ => rfl
  have O_law_places : Ok P0 w K mg base 2 "_law_places" 3 m_law_places := ok_law_places T A_law_places O_law_next O_law_rule
  have A_law_row : At K mg "_law_row" s_law_row ["_law_seed", "_law_boxes", "_law_most", "_law_many"] := at_of X G (hf 60 _ rfl) (hd 24 d_law_row rfl) fun _ _ _ _ _ _ us hl => match us, hl with | [_, _, _, _], _ => rfl
  have O_law_row : Ok P0 w K mg base 1 "_law_row" 4 m_law_row := ok_law_row T A_law_row
  have A_law_program : At K mg "_law_program" s_law_program ["_law_cell"] := at_of X G (hf 61 _ rfl) (hd 25 d_law_program rfl) fun _ _ _ _ _ _ us hl => match us, hl with | [_], _ => rfl
  have O_law_program : Ok P0 w K mg base 2 "_law_program" 1 m_law_program := ok_law_program T A_law_program O_law_next O_law_row
  have A_Unsafe___init__ : AtX K mg "Unsafe" "Unsafe.__init__" s_Unsafe___init__ ["self", "shown"] := atx_of X G (hf 25 _ rfl) (hy 1 _ rfl) (hd 26 d_Unsafe___init__ rfl) fun _ _ _ _ _ _ us hl => match us, hl with | [_, _], _ => rfl
  have O_Unsafe___init__ : UX P0 w K mg base "Unsafe" := ok_Unsafe___init__ T A_Unsafe___init__
  have A_by_row : At K mg "by_row" s_by_row ["places"] := at_of X G (hf 62 _ rfl) (hd 27 d_by_row rfl) fun _ _ _ _ _ _ us hl => match us, hl with | [_], _ => rfl
  have O_by_row : Ok P0 w K mg base 1 "by_row" 1 m_by_row := ok_by_row T A_by_row
  have A_is_stuck : At K mg "is_stuck" s_is_stuck ["there", "state"] := at_of X G (hf 63 _ rfl) (hd 28 d_is_stuck rfl) fun _ _ _ _ _ _ us hl => match us, hl with | [_, _], _ => rfl
  have O_is_stuck : Ok P0 w K mg base 3 "is_stuck" 2 m_is_stuck := ok_is_stuck T A_is_stuck O_turned
  have A_is_state : At K mg "is_state" s_is_state ["program", "thing"] := at_of X G (hf 64 _ rfl) (hd 29 d_is_state rfl) fun _ _ _ _ _ _ us hl => match us, hl with | [_, _], _ => rfl
  have O_is_state : Ok P0 w K mg base 3 "is_state" 2 m_is_state := ok_is_state T A_is_state O_is_numbers O_whole
  have A_need_state : At K mg "need_state" s_need_state ["program", "thing"] := at_of X G (hf 65 _ rfl) (hd 30 d_need_state rfl) fun _ _ _ _ _ _ us hl => match us, hl with | [_, _], _ => rfl
  have O_need_state : Ok P0 w K mg base 5 "need_state" 2 m_need_state := ok_need_state T A_need_state O_is_state O_need_program
  have A_met : At K mg "met" s_met ["one", "places", "state"] := at_of X G (hf 66 _ rfl) (hd 31 d_met rfl) fun _ _ _ _ _ _ us hl => match us, hl with | [_, _, _], _ => rfl
  have O_met : Ok P0 w K mg base 6 "met" 3 m_met := ok_met T A_met O_by_row O_is_stuck O_need_state O_stepped
  have A_is_worth : At K mg "is_worth" s_is_worth ["two", "thing"] := at_of X G (hf 67 _ rfl) (hd 32 d_is_worth rfl) fun _ _ _ _ _ _ us hl => match us, hl with | [_, _], _ => rfl
  have O_is_worth : Ok P0 w K mg base 2 "is_worth" 2 m_is_worth := ok_is_worth T A_is_worth O_whole
  have A_is_rule : At K mg "is_rule" s_is_rule ["one", "two", "thing"] := at_of X G (hf 68 _ rfl) (hd 33 d_is_rule rfl) fun _ _ _ _ _ _ us hl => match us, hl with | [_, _, _], _ => rfl
  have O_is_rule : Ok P0 w K mg base 3 "is_rule" 3 m_is_rule := ok_is_rule T A_is_rule O_is_worth O_whole
  have A_is_place : At K mg "is_place" s_is_place ["one", "two", "thing"] := at_of X G (hf 69 _ rfl) (hd 34 d_is_place rfl) fun _ _ _ _ _ _ us hl => match us, hl with | [_, _, _], _ => rfl
  have O_is_place : Ok P0 w K mg base 4 "is_place" 3 m_is_place := ok_is_place T A_is_place O_is_rule O_whole
  have A_is_places : At K mg "is_places" s_is_places ["one", "two", "thing"] := at_of X G (hf 70 _ rfl) (hd 35 d_is_places rfl) fun _ _ _ _ _ _ us hl => match us, hl with | [_, _, _], _ => rfl
  have O_is_places : Ok P0 w K mg base 5 "is_places" 3 m_is_places := ok_is_places T A_is_places O_is_place
  have A_need_places : At K mg "need_places" s_need_places ["one", "two", "places"] := at_of X G (hf 71 _ rfl) (hd 36 d_need_places rfl) fun _ _ _ _ _ _ us hl => match us, hl with | [_, _, _], _ => rfl
  have O_need_places : OkN P0 w K mg base 6 "need_places" 3 m_need_places := ok_need_places T A_need_places O_is_places O_need_program
  have A_Live_ask : AtM K mg "Live" "ask" "Live.ask" s_Live_ask ["self", "two", "places"] := atm_of X G (hf 32 _ rfl) (hf 33 _ rfl) (hf 41 _ rfl) (hd 37 d_Live_ask rfl) fun _ _ _ _ _ _ us hl => match us, hl with | [_, _, _], _ => rfl
  have O_Live_ask : OkM P0 w K mg base 7 "Live" "ask" 3 m_Live_ask := ok_Live_ask T A_Live_ask O_Live__settle O_Live_waits O_Unsafe___init__ O_by_row O_copied O_met O_need_places
  have A_law_shown : At K mg "_law_shown" s_law_shown ["_law_live", "_law_two", "_law_places_here"] := at_of X G (hf 72 _ rfl) (hd 38 d_law_shown rfl) fun _ _ _ _ _ _ us hl => match us, hl with | [_, _, _], _ => rfl
  have O_law_shown : OkB P0 w K mg base 8 "_law_shown" 3 0 m_law_shown := ok_law_shown T A_law_shown O_Live_ask
  have A_law_states : At K mg "_law_states" s_law_states ["_law_program_here"] := at_of X G (hf 73 _ rfl) (hd 39 d_law_states rfl) fun _ _ _ _ _ _ us hl => match us, hl with | [_], _ => rfl
  have O_law_states : Ok P0 w K mg base 1 "_law_states" 1 m_law_states := ok_law_states T A_law_states
  have A_begins : At K mg "begins" s_begins ["program"] := at_of X G (hf 74 _ rfl) (hd 40 d_begins rfl) fun _ _ _ _ _ _ us hl => match us, hl with | [_], _ => rfl
  have O_begins : OkN P0 w K mg base 5 "begins" 1 m_begins := ok_begins T A_begins O_need_program
  have A_unsafe_run : At K mg "unsafe_run" s_unsafe_run ["one", "there", "begin", "fine"] := at_of X G (hf 75 _ rfl) (hd 41 d_unsafe_run rfl) fun _ _ _ _ _ _ us hl => match us, hl with | [_, _, _, _], _ => rfl
  have O_unsafe_run : OkB P0 w K mg base 4 "unsafe_run" 4 3 m_unsafe_run := ok_unsafe_run T A_unsafe_run O_is_stuck O_stepped
  have A_looked : At K mg "looked" s_looked ["one", "two", "places"] := at_of X G (hf 76 _ rfl) (hd 42 d_looked rfl) fun _ _ _ _ _ _ us hl => match us, hl with | [_, _, _], _ => rfl
  have O_looked : Ok P0 w K mg base 7 "looked" 3 m_looked := ok_looked T A_looked O_begins O_by_row O_need_places O_unsafe_run
  exact fn_law T FL O_Live_changed O_Live_go O_Live_state O_Live_waits O_law_cell_at O_law_gone O_law_numbers O_law_places O_law_program O_law_shown O_law_states O_looked
theorem run_f (w : World) : HandSHeadRun.RunEq R (PySem.W.view R.prog [lawAt]) hk ob 20000 loose (w.withFollow "special-get-raises" false) := by
  intro os
  kernel_rfl
theorem run_t (w : World) : HandSHeadRun.RunEq R (PySem.W.view R.prog [lawAt]) hk ob 20000 loose (w.withFollow "special-get-raises" true) := by
  intro os
  kernel_rfl
theorem run (w : World) : HandSHeadRun.RunEq R (PySem.W.view R.prog [lawAt]) hk ob 20000 loose w :=
  PySem.W.byRow2 "special-get-raises" (P := fun w => HandSHeadRun.RunEq R (PySem.W.view R.prog [lawAt]) hk ob 20000 loose w) run_f run_t w
end K11
open PySem PySem.W PySem.Calls PyProof.Rows
theorem K11.holds_of (hm : ∀ ns : List Int, ns.length ≤ 63 → K11.m_law [.fro ns] = .ok (.bl true)) : PySem.Challenge.rw_liveswap_k11_whole_safe_ones_come.Holds := by
  w_on; o_law
  refine HandSHeadRun.head_any (r := OpenLaw.row PySem.Challenge.rw_liveswap_k11_whole_safe_ones_come) (q := view (OpenLaw.row PySem.Challenge.rw_liveswap_k11_whole_safe_ones_come).prog [K11.lawAt]) (H := K11.hk) (ob := K11.ob) (M := 20000) (loose := K11.loose) (d := HandSHeadRun.topDef (OpenLaw.row PySem.Challenge.rw_liveswap_k11_whole_safe_ones_come).prog K11.lawAt) (kwd := []) K11.ob_eq
    (by kernel_rfl) (fun s => by kernel_rfl) K11.run (by kernel_rfl) (by kernel_rfl) (by kernel_rfl) (by rfl) (by first | assumption | decide +kernel) (by decide +kernel) ⟨rfl, rfl, rfl, rfl, rfl, by decide +kernel⟩ ?hw ?hc
  case hw => w_witness2
  case hc =>
    refine VS.walk_w (l := PySem.Challenge.rw_liveswap_k11_whole_safe_ones_come) (n := 63) (k := 9) (x := "_law_script") (CX := fun w => L2.CX K11.P0 w) rfl (by decide) (by kernel_rfl) ⟨rfl, by decide, by decide⟩ ?F (fun _ _ _ _ _ z => VS.cx_none z)
    intro w mg fa h Y G hmg0
    obtain ⟨K, X, c⟩ := Y
    have hmg : mg ("law" : PySem.Str) = some (.ref fa) := by
      have e : (HandSHeadRun.topDef (OpenLaw.row PySem.Challenge.rw_liveswap_k11_whole_safe_ones_come).prog K11.lawAt).name = ("law" : PySem.Str) := by kernel_rfl
      rw [← e]
      exact hmg0
    have hf : ∀ (i : Nat) (z : He.Fa), K11.fas[i]? = some z → z.ok K = true := fun i z e => c.t.d.fact i e
    have hx : ∀ (i : Nat) (z : VS.Xa), K11.xas[i]? = some z → z.ok K = true := fun i z e => VS.exA_at c.more i z e
    have hy : ∀ (i : Nat) (z : VS.Xb), K11.xbs[i]? = some z → z.ok K = true := fun i z e => VS.exB_at c.more i z e
    have ht : ∀ (i : Nat) (t : He.Tab), K11.tss[i]? = some t → ∃ es n, L2.KDict K w (t.1 K) es n := fun i t e => c.t.tab i e
    have hd : ∀ (i : Nat) (d : He.DefD), K11.fns[i]? = some d → ∃ fd, L2.FunD K d.name d.qual d.params d.body d.scope (d.dvs K) (d.kws K) (He.fAd K d.at_) fd := fun i d e => c.t.d.def_ i e
    obtain ⟨fd, FT⟩ := hd 43 K11.d_law rfl
    have e := hmg.symm.trans (He.glo_ok X G (hf 77 _ rfl))
    cases e
    have b := L2.FunD.bindsA (ps := ["_law_script"]) FT fun _ _ _ _ _ _ us hl => match us, hl with | [_], _ => rfl
    exact ⟨K, fd, VS.spD ⟨K, mg⟩ 1 K11.m_law, X, fun s u => b s [u] rfl, fun H a ns hl _ hS => VS.law_sp hm hl hS, fun base _ _ => K11.ok_all (base := base) X G hf hx hy ht hd (VS.fun_of FT)⟩

namespace K11
open PySem PySem.Spec PyProof.Rows L2 Evl VS
/-! ### the data -/
inductive Rw where
  | put (b n : Nat) | more (b : Nat) | copy (b o : Nat) | tell (b : Nat) | go (r : Nat) | ask (b r : Nat) | stop
def Rw.t : Rw → T
  | .put b n => .tup [.str "put", .int b, .int n]
  | .more b => .tup [.str "more", .int b]
  | .copy b o => .tup [.str "copy", .int b, .int o]
  | .tell b => .tup [.str "tell", .int b]
  | .go r => .tup [.str "go", .int r]
  | .ask b r => .tup [.str "ask", .int b, .int r]
  | .stop => .tup [.str "stop"]
def Rw.ok (B M N : Nat) : Rw → Prop
  | .put b n => b < B ∧ n ≤ M
  | .more b => b < B
  | .copy b o => b < B ∧ o < B
  | .tell b => b < B
  | .go r => r < N
  | .ask b r => b < B ∧ r < N
  | .stop => True
def Rw.ends : Rw → Bool
  | .go _ => true
  | .stop => true
  | _ => false
structure Pg where
  B : Nat
  M : Nat
  rows : List Rw
def Pg.t (p : Pg) : T := .tup [.int p.B, .int p.M, .lst (p.rows.map Rw.t)]
structure Pg.ok (p : Pg) : Prop where
  b3 : p.B ≤ 3
  m1 : 1 ≤ p.M
  m4 : p.M ≤ 4
  n1 : 1 ≤ p.rows.length
  n20 : p.rows.length ≤ 20
  rows : ∀ r ∈ p.rows, r.ok p.B p.M p.rows.length
  last : ∀ r, p.rows.getLast? = some r → r.ends = true
def numsT (l : List Nat) : T := .tup (l.map fun n => .int (n : Nat))
def Nums (p : Pg) (l : List Nat) : Prop := l.length = p.B ∧ ∀ n ∈ l, n ≤ p.M
theorem rowT_kind (r : Rw) : ∃ k l, r.t = .tup (.str k :: l) ∧ gIn false (.str k) (.tup [.str "go", .str "stop"]) = some (.bl r.ends) := by
  cases r <;> exact ⟨_, _, rfl, by rfl⟩
theorem getLast_map {α β : Type} (f : α → β) (l : List α) : (l.map f).getLast? = l.getLast?.map f := by simp
def oN : Option Nat → T
  | none => .non
  | some n => .int (n : Nat)
theorem e_is_is : gEq (.str "is") (.str "is") = some (.bl true) := gEq_strs (by decide +kernel)
theorem e_by_is : gEq (.str "by") (.str "is") = some (.bl false) := gEq_strs (by decide +kernel)
theorem e_is_by : gEq (.str "is") (.str "by") = some (.bl false) := gEq_strs (by decide +kernel)
theorem e_by_by : gEq (.str "by") (.str "by") = some (.bl true) := gEq_strs (by decide +kernel)

/-! ### the law's helpers -/
theorem cell_ok (ns : List Int) (k : Nat) : ∃ c : Int, m_law_cell_at [.fro ns, .int (k : Nat)] = .ok (.int c) := by
  unfold m_law_cell_at b_law_cell_at
  by_cases h : k < ns.length
  · have h1 : ns[k]? = some ns[k] := List.getElem?_eq_getElem h
    exact ⟨ns[k], by simp [fDef, sSeq, sLift, sRet, sIf, sSet, sNew, sExp, sNx, sAsg, setT, setAll, sFrz, frz, sRaise, sApp, eB, eU, eC, eV, eW, eCh, eAnd, eOr, eNot, eIf, eTup, eLst, eNeg, eSl, oNone, oSome, aNil, aCons, eCall, Res.bind, Res.of, gI, gLen, gInt, gList, gTuple, gType, tyName, gTyIs, gIsi, gIsN', gNotN', T.isNon, T.isFn, gIx_tup, gIx_lst, gIx_fro, VS.atI_nat, atI_0, atI_1, atI_2, VS.atI_last, gEq_int, gNe_int, gAdd, gSubI, gMul, gMod, gDiv, h, h1]⟩
  · exact ⟨0, by simp [fDef, sSeq, sLift, sRet, sIf, sSet, sNew, sExp, sNx, sAsg, setT, setAll, sFrz, frz, sRaise, sApp, eB, eU, eC, eV, eW, eCh, eAnd, eOr, eNot, eIf, eTup, eLst, eNeg, eSl, oNone, oSome, aNil, aCons, eCall, Res.bind, Res.of, gI, gLen, gInt, gList, gTuple, gType, tyName, gTyIs, gIsi, gIsN', gNotN', T.isNon, T.isFn, gIx_tup, gIx_lst, gIx_fro, VS.atI_nat, atI_0, atI_1, atI_2, VS.atI_last, gEq_int, gNe_int, gAdd, gSubI, gMul, gMod, gDiv, h]⟩
theorem mod_nat (z m : Int) (h : 0 < m) : ∃ k : Nat, z % m = (k : Int) ∧ (k : Int) < m :=
  ⟨(z % m).toNat, (Int.toNat_of_nonneg (Int.emod_nonneg _ (by omega))).symm, by rw [Int.toNat_of_nonneg (Int.emod_nonneg _ (by omega))]; exact Int.emod_lt_of_pos _ h⟩
theorem next_ok (s : Int) : ∃ r : Nat, m_law_next [.int s] = .ok (.int (r : Nat)) := by
  obtain ⟨k, h, _⟩ := mod_nat (s * 48271 + 11) 2147483647 (by decide)
  refine ⟨k, ?_⟩
  unfold m_law_next b_law_next
  simp [fDef, sSeq, sLift, sRet, sIf, sSet, sNew, sExp, sNx, sAsg, setT, setAll, sFrz, frz, sRaise, sApp, eB, eU, eC, eV, eW, eCh, eAnd, eOr, eNot, eIf, eTup, eLst, eNeg, eSl, oNone, oSome, aNil, aCons, eCall, Res.bind, Res.of, gI, gLen, gInt, gList, gTuple, gType, tyName, gTyIs, gIsi, gIsN', gNotN', T.isNon, T.isFn, gIx_tup, gIx_lst, gIx_fro, VS.atI_nat, atI_0, atI_1, atI_2, VS.atI_last, gEq_int, gNe_int, gAdd, gSubI, gMul, gMod, gDiv, h]
theorem row_ok {z : Int} {B M N : Nat} (hN : 1 ≤ N) : ∃ r : Rw, m_law_row [.int z, .int (B : Nat), .int (M : Nat), .int (N : Nat)] = .ok r.t ∧ r.ok B M N := by
  have pN : (0 : Int) < N := by omega
  have pN' : 0 < N := by omega
  have pM : (0 : Int) < (M : Int) + 1 := by omega
  obtain ⟨k, hk, lk⟩ := mod_nat z 10 (by decide)
  obtain ⟨r1, e1, l1⟩ := mod_nat (z / 10) N pN
  obtain ⟨r5, e5, l5⟩ := mod_nat (z / 50) N pN
  obtain ⟨n, en, ln⟩ := mod_nat (z / 50) ((M : Int) + 1) pM
  obtain ⟨j, ej, lj⟩ := mod_nat (z / 20) 2 (by decide)
  have hk10 : k < 10 := by omega
  have hj2 : j < 2 := by omega
  unfold m_law_row b_law_row
  by_cases hB : B = 0
  · subst hB
    by_cases h7 : k < 7
    · have e7 : (k : Int) / 7 = 0 := by omega
      exact ⟨.go r1, by simp [fDef, sSeq, sLift, sRet, sIf, sSet, sNew, sExp, sNx, sAsg, setT, setAll, sFrz, frz, sRaise, sApp, eB, eU, eC, eV, eW, eCh, eAnd, eOr, eNot, eIf, eTup, eLst, eNeg, eSl, oNone, oSome, aNil, aCons, eCall, Res.bind, Res.of, gI, gLen, gInt, gList, gTuple, gType, tyName, gTyIs, gIsi, gIsN', gNotN', T.isNon, T.isFn, gIx_tup, gIx_lst, gIx_fro, VS.atI_nat, atI_0, atI_1, atI_2, VS.atI_last, gEq_int, gNe_int, gAdd, gSubI, gMul, gMod, gDiv, hk, e7, e1, pN, pN', Rw.t], by show r1 < N; omega⟩
    · have e7 : (k : Int) / 7 = 1 := by omega
      exact ⟨.stop, by simp [fDef, sSeq, sLift, sRet, sIf, sSet, sNew, sExp, sNx, sAsg, setT, setAll, sFrz, frz, sRaise, sApp, eB, eU, eC, eV, eW, eCh, eAnd, eOr, eNot, eIf, eTup, eLst, eNeg, eSl, oNone, oSome, aNil, aCons, eCall, Res.bind, Res.of, gI, gLen, gInt, gList, gTuple, gType, tyName, gTyIs, gIsi, gIsN', gNotN', T.isNon, T.isFn, gIx_tup, gIx_lst, gIx_fro, VS.atI_nat, atI_0, atI_1, atI_2, VS.atI_last, gEq_int, gNe_int, gAdd, gSubI, gMul, gMod, gDiv, hk, e7, e1, pN, pN', Rw.t], trivial⟩
  · have pB : (0 : Int) < B := by omega
    have pB' : 0 < B := by omega
    obtain ⟨b, eb, lb⟩ := mod_nat (z / 10) B pB
    obtain ⟨o, eo, lo⟩ := mod_nat (z / 50) B pB
    have lb' : b < B := by omega
    have lo' : o < B := by omega
    by_cases h2 : k < 2
    · have q : (k : Int) < 2 := by omega
      exact ⟨.put b n, by simp [fDef, sSeq, sLift, sRet, sIf, sSet, sNew, sExp, sNx, sAsg, setT, setAll, sFrz, frz, sRaise, sApp, eB, eU, eC, eV, eW, eCh, eAnd, eOr, eNot, eIf, eTup, eLst, eNeg, eSl, oNone, oSome, aNil, aCons, eCall, Res.bind, Res.of, gI, gLen, gInt, gList, gTuple, gType, tyName, gTyIs, gIsi, gIsN', gNotN', T.isNon, T.isFn, gIx_tup, gIx_lst, gIx_fro, VS.atI_nat, atI_0, atI_1, atI_2, VS.atI_last, gEq_int, gNe_int, gAdd, gSubI, gMul, gMod, gDiv, hk, hB, q, eb, en, pB, pB', pM, Rw.t], lb', by omega⟩
    · have q2 : ¬ (k : Int) < 2 := by omega
      by_cases h4 : k < 4
      · have q : (k : Int) < 4 := by omega
        exact ⟨.more b, by simp [fDef, sSeq, sLift, sRet, sIf, sSet, sNew, sExp, sNx, sAsg, setT, setAll, sFrz, frz, sRaise, sApp, eB, eU, eC, eV, eW, eCh, eAnd, eOr, eNot, eIf, eTup, eLst, eNeg, eSl, oNone, oSome, aNil, aCons, eCall, Res.bind, Res.of, gI, gLen, gInt, gList, gTuple, gType, tyName, gTyIs, gIsi, gIsN', gNotN', T.isNon, T.isFn, gIx_tup, gIx_lst, gIx_fro, VS.atI_nat, atI_0, atI_1, atI_2, VS.atI_last, gEq_int, gNe_int, gAdd, gSubI, gMul, gMod, gDiv, hk, hB, q2, q, eb, pB, pB', Rw.t], lb'⟩
      · have q4 : ¬ (k : Int) < 4 := by omega
        by_cases h44 : k = 4
        · have q : (k : Int) = 4 := by omega
          exact ⟨.copy b o, by simp [fDef, sSeq, sLift, sRet, sIf, sSet, sNew, sExp, sNx, sAsg, setT, setAll, sFrz, frz, sRaise, sApp, eB, eU, eC, eV, eW, eCh, eAnd, eOr, eNot, eIf, eTup, eLst, eNeg, eSl, oNone, oSome, aNil, aCons, eCall, Res.bind, Res.of, gI, gLen, gInt, gList, gTuple, gType, tyName, gTyIs, gIsi, gIsN', gNotN', T.isNon, T.isFn, gIx_tup, gIx_lst, gIx_fro, VS.atI_nat, atI_0, atI_1, atI_2, VS.atI_last, gEq_int, gNe_int, gAdd, gSubI, gMul, gMod, gDiv, hk, hB, q, eb, eo, pB, pB', Rw.t], lb', lo'⟩
        · have q44 : ¬ (k : Int) = 4 := by omega
          by_cases h7 : k < 7
          · have q : (k : Int) < 7 := by omega
            exact ⟨.tell b, by simp [fDef, sSeq, sLift, sRet, sIf, sSet, sNew, sExp, sNx, sAsg, setT, setAll, sFrz, frz, sRaise, sApp, eB, eU, eC, eV, eW, eCh, eAnd, eOr, eNot, eIf, eTup, eLst, eNeg, eSl, oNone, oSome, aNil, aCons, eCall, Res.bind, Res.of, gI, gLen, gInt, gList, gTuple, gType, tyName, gTyIs, gIsi, gIsN', gNotN', T.isNon, T.isFn, gIx_tup, gIx_lst, gIx_fro, VS.atI_nat, atI_0, atI_1, atI_2, VS.atI_last, gEq_int, gNe_int, gAdd, gSubI, gMul, gMod, gDiv, hk, hB, q2, q4, q44, q, eb, pB, pB', Rw.t], lb'⟩
          · have q7 : ¬ (k : Int) < 7 := by omega
            by_cases h77 : k = 7
            · have q : (k : Int) = 7 := by omega
              by_cases hj : j = 0
              · subst hj
                exact ⟨.go r5, by simp [fDef, sSeq, sLift, sRet, sIf, sSet, sNew, sExp, sNx, sAsg, setT, setAll, sFrz, frz, sRaise, sApp, eB, eU, eC, eV, eW, eCh, eAnd, eOr, eNot, eIf, eTup, eLst, eNeg, eSl, oNone, oSome, aNil, aCons, eCall, Res.bind, Res.of, gI, gLen, gInt, gList, gTuple, gType, tyName, gTyIs, gIsi, gIsN', gNotN', T.isNon, T.isFn, gIx_tup, gIx_lst, gIx_fro, VS.atI_nat, atI_0, atI_1, atI_2, VS.atI_last, gEq_int, gNe_int, gAdd, gSubI, gMul, gMod, gDiv, hk, hB, q, ej, e5, eb, pB, pB', pN, pN', Rw.t], by show r5 < N; omega⟩
              · obtain rfl : j = 1 := by omega
                exact ⟨.stop, by simp [fDef, sSeq, sLift, sRet, sIf, sSet, sNew, sExp, sNx, sAsg, setT, setAll, sFrz, frz, sRaise, sApp, eB, eU, eC, eV, eW, eCh, eAnd, eOr, eNot, eIf, eTup, eLst, eNeg, eSl, oNone, oSome, aNil, aCons, eCall, Res.bind, Res.of, gI, gLen, gInt, gList, gTuple, gType, tyName, gTyIs, gIsi, gIsN', gNotN', T.isNon, T.isFn, gIx_tup, gIx_lst, gIx_fro, VS.atI_nat, atI_0, atI_1, atI_2, VS.atI_last, gEq_int, gNe_int, gAdd, gSubI, gMul, gMod, gDiv, hk, hB, q, ej, e5, eb, pB, pB', pN, pN', Rw.t], trivial⟩
            · have q77 : ¬ (k : Int) = 7 := by omega
              exact ⟨.ask b r5, by simp [fDef, sSeq, sLift, sRet, sIf, sSet, sNew, sExp, sNx, sAsg, setT, setAll, sFrz, frz, sRaise, sApp, eB, eU, eC, eV, eW, eCh, eAnd, eOr, eNot, eIf, eTup, eLst, eNeg, eSl, oNone, oSome, aNil, aCons, eCall, Res.bind, Res.of, gI, gLen, gInt, gList, gTuple, gType, tyName, gTyIs, gIsi, gIsN', gNotN', T.isNon, T.isFn, gIx_tup, gIx_lst, gIx_fro, VS.atI_nat, atI_0, atI_1, atI_2, VS.atI_last, gEq_int, gNe_int, gAdd, gSubI, gMul, gMod, gDiv, hk, hB, q2, q4, q44, q7, q77, eb, e5, pB, pB', pN, pN', Rw.t], lb', by omega⟩
def bodyP : FS := (sSeq (sSet 1 (eCall 1 m_law_next (aCons (eB gAdd (eW 1) (eW 6)) aNil)))
  (sApp 5 (eCall 4 m_law_row (aCons (eV 1) (aCons (eV 2) (aCons (eV 3) (aCons (eV 4) aNil)))))))
theorem bodyP_ok {B M N s k : Nat} {rs : List Rw} {c : Sl} (hN : 1 ≤ N) (hl : rs.length ≤ 1000) : ∃ (s1 : Nat) (r : Rw), r.ok B M N ∧ bodyP [c, .sh (.int (s : Nat)), .sh (.int (B : Nat)), .sh (.int (M : Nat)), .sh (.int (N : Nat)), .ow (.lst (rs.map Rw.t)), .sh (.int (k : Nat))] = .nx [c, .sh (.int (s1 : Nat)), .sh (.int (B : Nat)), .sh (.int (M : Nat)), .sh (.int (N : Nat)), .ow (.lst ((rs ++ [r]).map Rw.t)), .sh (.int (k : Nat))] := by
  obtain ⟨s1, e1⟩ := next_ok ((s : Int) + (k : Int))
  obtain ⟨r, e2, hr⟩ := row_ok (z := (s1 : Int)) (B := B) (M := M) (N := N) hN
  refine ⟨s1, r, hr, ?_⟩
  have a1 : ∀ F : Mir, F [.int ((s : Int) + (k : Int))] = .ok (.int (s1 : Nat)) → (sSet 1 (eCall 1 F (aCons (eB gAdd (eW 1) (eW 6)) aNil))) [c, .sh (.int (s : Nat)), .sh (.int (B : Nat)), .sh (.int (M : Nat)), .sh (.int (N : Nat)), .ow (.lst (rs.map Rw.t)), .sh (.int (k : Nat))] = .nx [c, .sh (.int (s1 : Nat)), .sh (.int (B : Nat)), .sh (.int (M : Nat)), .sh (.int (N : Nat)), .ow (.lst (rs.map Rw.t)), .sh (.int (k : Nat))] := by
    intro F e
    simp [fDef, sSeq, sLift, sRet, sIf, sSet, sNew, sExp, sNx, sAsg, setT, setAll, sFrz, frz, sRaise, sApp, eB, eU, eC, eV, eW, eCh, eAnd, eOr, eNot, eIf, eTup, eLst, eNeg, eSl, oNone, oSome, aNil, aCons, eCall, Res.bind, Res.of, gI, gLen, gInt, gList, gTuple, gType, tyName, gTyIs, gIsi, gIsN', gNotN', T.isNon, T.isFn, gIx_tup, gIx_lst, gIx_fro, VS.atI_nat, atI_0, atI_1, atI_2, VS.atI_last, gEq_int, gNe_int, gAdd, gSubI, gMul, gMod, gDiv, e]
  have a2 : (eCall 4 m_law_row (aCons (eV 1) (aCons (eV 2) (aCons (eV 3) (aCons (eV 4) aNil))))) [c, .sh (.int (s1 : Nat)), .sh (.int (B : Nat)), .sh (.int (M : Nat)), .sh (.int (N : Nat)), .ow (.lst (rs.map Rw.t)), .sh (.int (k : Nat))] = .ok r.t := by
    simp [fDef, sSeq, sLift, sRet, sIf, sSet, sNew, sExp, sNx, sAsg, setT, setAll, sFrz, frz, sRaise, sApp, eB, eU, eC, eV, eW, eCh, eAnd, eOr, eNot, eIf, eTup, eLst, eNeg, eSl, oNone, oSome, aNil, aCons, eCall, Res.bind, Res.of, gI, gLen, gInt, gList, gTuple, gType, tyName, gTyIs, gIsi, gIsN', gNotN', T.isNon, T.isFn, gIx_tup, gIx_lst, gIx_fro, VS.atI_nat, atI_0, atI_1, atI_2, VS.atI_last, gEq_int, gNe_int, gAdd, gSubI, gMul, gMod, gDiv, e2]
  unfold bodyP
  rw [sSeq_nx (a1 _ e1), sApp_ok rfl a2 (by rw [List.length_map]; exact lt_big hl)]
  rw [List.map_append]
  rfl
theorem loopP (B M N : Nat) (hN : 1 ≤ N) (hN2 : N ≤ 100) (c : Sl) (s : Nat) (x : Sl) :
    ∃ (s' : Nat) (rs' : List Rw) (y : Sl), loopF (.nm 6) bodyP ((List.range N).map fun i => .int (i : Nat)) [c, .sh (.int (s : Nat)), .sh (.int (B : Nat)), .sh (.int (M : Nat)), .sh (.int (N : Nat)), .ow (.lst []), x]
        = .nx [c, .sh (.int (s' : Nat)), .sh (.int (B : Nat)), .sh (.int (M : Nat)), .sh (.int (N : Nat)), .ow (.lst (rs'.map Rw.t)), y] ∧ rs'.length = N ∧ ∀ r ∈ rs', r.ok B M N := by
  obtain ⟨ρ', h1, s', rs', y, h2, h3, h4⟩ := loop_nx (i := 6) (body := bodyP) (fun n ρ => ∃ (s : Nat) (rs : List Rw) (y : Sl), ρ = [c, .sh (.int (s : Nat)), .sh (.int (B : Nat)), .sh (.int (M : Nat)), .sh (.int (N : Nat)), .ow (.lst (rs.map Rw.t)), y] ∧ rs.length = n ∧ ∀ r ∈ rs, r.ok B M N)
    ((List.range N).map fun i => .int (i : Nat)) 0 [c, .sh (.int (s : Nat)), .sh (.int (B : Nat)), .sh (.int (M : Nat)), .sh (.int (N : Nat)), .ow (.lst []), x] ⟨s, [], x, rfl, rfl, fun r m => nomatch m⟩ (by
      rintro t m n h1 h2 ρ ⟨s, rs, y, rfl, h4, h5⟩
      obtain ⟨k, _, rfl⟩ := List.mem_map.mp m
      rw [List.length_map, List.length_range] at h2
      obtain ⟨s1, r, hr, e3⟩ := bodyP_ok (B := B) (M := M) (s := s) (k := k) (rs := rs) (c := c) hN (by omega)
      refine ⟨_, e3, s1, rs ++ [r], _, rfl, by rw [List.length_append, List.length_singleton, h4], fun q m => ?_⟩
      rcases List.mem_append.mp m with m | m
      · exact h5 q m
      · rw [List.mem_singleton.mp m]; exact hr)
  rw [List.length_map, List.length_range, Nat.zero_add] at h3
  subst h2
  exact ⟨s', rs', y, h1, h3, h4⟩
theorem ixN_last {n : Nat} (h : 1 ≤ n) : ixN n (-1) = some (n - 1) := by
  unfold ixN
  rw [if_neg (by decide), if_pos (by omega)]
  congr 1
  omega
theorem last_set {α : Type} {l : List α} (h : 1 ≤ l.length) (x : α) : (l.set (l.length - 1) x).getLast? = some x := by
  rw [List.getLast?_eq_getElem?, List.length_set, List.getElem?_set_self (by omega)]
theorem sFor_ok {fi : FI} {g : Tg} {body : FS} {ρ ρ' : Ev'} {l : List T} (h : fi ρ = .ok l) (k : loopF g body l ρ = .nx ρ') : sFor fi g body ρ = .nx ρ' := by
  unfold sFor
  rw [h]
  exact k
theorem sIf_t {fc : FE} {f g : FS} {ρ : Ev'} (h : fc ρ = .ok (.bl true)) : sIf fc f g ρ = f ρ := by
  unfold sIf sLift
  rw [h]
theorem sIf_f {fc : FE} {f g : FS} {ρ : Ev'} (h : fc ρ = .ok (.bl false)) : sIf fc f g ρ = g ρ := by
  unfold sIf sLift
  rw [h]
theorem sPut_last {i : Nat} {fa : FE} {ρ : Ev'} {l : List T} {t : T} (h : ρ[i]? = some (.ow (.lst l))) (e : fa ρ = .ok t) (hl : 1 ≤ l.length) : sPut i (eNeg (eC (.int 1))) fa ρ = .nx (ρ.set i (.ow (.lst (l.set (l.length - 1) t)))) := by
  have h1 := ixN_last hl
  unfold sPut
  simp only [sLift, e, h, eNeg, eC, Res.bind, h1]
abbrev sg (c s B M N : Int) (l : List T) (x : Sl) : Ev' := [.sh (.int c), .sh (.int s), .sh (.int B), .sh (.int M), .sh (.int N), .ow (.lst l), x]
theorem many_ok (c : Int) (s : Nat) (x y : Sl) : ∃ N : Nat, 1 ≤ N ∧ N ≤ 16 ∧ (eB gAdd (eB gAdd (eC (.int 1)) (eB gMod (eB gDiv (eW 1) (eC (.int 24))) (eC (.int 7)))) (eB gMul (eC (.int 9)) (eU gInt (eB gEq (eB gMod (eB gDiv (eW 1) (eC (.int 200))) (eC (.int 8))) (eC (.int 3)))))) [.sh (.int c), .sh (.int (s : Nat)), x, y, .un, .un, .un] = .ok (.int (N : Nat)) := by
  obtain ⟨n7, en7, ln7⟩ := mod_nat ((s : Int) / 24) 7 (by decide)
  generalize (s : Int) = z at *
  by_cases h9 : z / 200 % 8 = 3
  · exact ⟨1 + n7 + 9, by omega, by omega, by simp [fDef, sSeq, sLift, sRet, sIf, sSet, sNew, sExp, sNx, sAsg, setT, setAll, sFrz, frz, sRaise, sApp, eB, eU, eC, eV, eW, eCh, eAnd, eOr, eNot, eIf, eTup, eLst, eNeg, eSl, oNone, oSome, aNil, aCons, eCall, Res.bind, Res.of, gI, gLen, gInt, gList, gTuple, gType, tyName, gTyIs, gIsi, gIsN', gNotN', T.isNon, T.isFn, gIx_tup, gIx_lst, gIx_fro, VS.atI_nat, atI_0, atI_1, atI_2, VS.atI_last, gEq_int, gNe_int, gAdd, gSubI, gMul, gMod, gDiv, en7, h9]⟩
  · exact ⟨1 + n7, by omega, by omega, by simp [fDef, sSeq, sLift, sRet, sIf, sSet, sNew, sExp, sNx, sAsg, setT, setAll, sFrz, frz, sRaise, sApp, eB, eU, eC, eV, eW, eCh, eAnd, eOr, eNot, eIf, eTup, eLst, eNeg, eSl, oNone, oSome, aNil, aCons, eCall, Res.bind, Res.of, gI, gLen, gInt, gList, gTuple, gType, tyName, gTyIs, gIsi, gIsN', gNotN', T.isNon, T.isFn, gIx_tup, gIx_lst, gIx_fro, VS.atI_nat, atI_0, atI_1, atI_2, VS.atI_last, gEq_int, gNe_int, gAdd, gSubI, gMul, gMod, gDiv, en7, h9]⟩
theorem program_ok (c : Int) : ∃ p : Pg, m_law_program [.int c] = .ok p.t ∧ p.ok ∧ p.rows.length ≤ 16 := by
  obtain ⟨s, e1⟩ := next_ok c
  obtain ⟨k6, e6, l6⟩ := mod_nat s 6 (by decide)
  have hB : ∃ B : Nat, B ≤ 3 ∧ ([.int 1, .int 2, .int 1, .int 2, .int 0, .int 3] : List T)[k6]? = some (.int (B : Nat)) := by
    have : k6 = 0 ∨ k6 = 1 ∨ k6 = 2 ∨ k6 = 3 ∨ k6 = 4 ∨ k6 = 5 := by omega
    rcases this with rfl | rfl | rfl | rfl | rfl | rfl
    · exact ⟨1, by decide, rfl⟩
    · exact ⟨2, by decide, rfl⟩
    · exact ⟨1, by decide, rfl⟩
    · exact ⟨2, by decide, rfl⟩
    · exact ⟨0, by decide, rfl⟩
    · exact ⟨3, by decide, rfl⟩
  obtain ⟨B, hB3, eB'⟩ := hB
  have hW : ∃ W : Nat, 0 < W ∧ W ≤ 4 ∧ ([.int 4, .int 4, .int 4, .int 2] : List T)[B]? = some (.int (W : Nat)) := by
    have : B = 0 ∨ B = 1 ∨ B = 2 ∨ B = 3 := by omega
    rcases this with rfl | rfl | rfl | rfl
    · exact ⟨4, by decide, by decide, rfl⟩
    · exact ⟨4, by decide, by decide, rfl⟩
    · exact ⟨4, by decide, by decide, rfl⟩
    · exact ⟨2, by decide, by decide, rfl⟩
  obtain ⟨W, hW0, hW4, eW'⟩ := hW
  have pW : (0 : Int) < (W : Nat) := by omega
  obtain ⟨m, em, lm⟩ := mod_nat ((s : Int) / 6) (W : Nat) pW
  have eM : (1 : Int) + (m : Nat) = ((1 + m : Nat) : Int) := by omega
  obtain ⟨N, hN1, hN16, eN⟩ := many_ok c s (.sh (.int (B : Nat))) (.sh (.int ((1 + m : Nat) : Int)))
  obtain ⟨s', rs, y, h1, h2, h3⟩ := loopP B (1 + m) N hN1 (by omega) (.sh (.int c)) s .un
  have hlen : rs.length = N := h2
  obtain ⟨r, hr⟩ : ∃ r, rs.getLast? = some r := by
    cases e : rs.getLast? with
    | some r => exact ⟨r, rfl⟩
    | none => rw [List.getLast?_eq_none_iff] at e; rw [e] at hlen; simp at hlen; omega
  obtain ⟨kd, tl', q1, q2⟩ := rowT_kind r
  have hl : (rs.map Rw.t).getLast? = some (.tup (.str kd :: tl')) := by rw [getLast_map, hr, ← q1]; rfl
  have q3 : gIn true (.str kd) (.tup [.str "go", .str "stop"]) = some (.bl !r.ends) := by
    cases r <;> (simp only [Rw.t, T.tup.injEq, List.cons.injEq, T.str.injEq] at q1; obtain ⟨rfl, _⟩ := q1; rfl)
  have hNN : (-100000 : Int) ≤ (N : Nat) ∧ ((N : Nat) : Int) ≤ 100000 := ⟨by omega, by omega⟩
  have hrg : iRg (eV 4) [.sh (.int c), .sh (.int (s : Nat)), .sh (.int (B : Nat)), .sh (.int ((1 + m : Nat) : Int)), .sh (.int (N : Nat)), .ow (.lst []), .un] = .ok ((List.range N).map fun i => .int (i : Nat)) := by
    simp only [iRg, fDef, sSeq, sLift, sRet, sIf, sSet, sNew, sExp, sNx, sAsg, setT, setAll, sFrz, frz, sRaise, sApp, eB, eU, eC, eV, eW, eCh, eAnd, eOr, eNot, eIf, eTup, eLst, eNeg, eSl, oNone, oSome, aNil, aCons, eCall, Res.bind, Res.of, gI, gLen, gInt, gList, gTuple, gType, tyName, gTyIs, gIsi, gIsN', gNotN', T.isNon, T.isFn, gIx_tup, gIx_lst, gIx_fro, VS.atI_nat, atI_0, atI_1, atI_2, VS.atI_last, gEq_int, gNe_int, gAdd, gSubI, gMul, gMod, gDiv, List.getElem?_cons_zero, List.getElem?_cons_succ, if_pos hNN, Int.toNat_natCast]
  have a1 : ∀ F : Mir, F [.int c] = .ok (.int (s : Nat)) → (sSet 1 (eCall 1 F (aCons (eV 0) aNil))) [.sh (.int c), .un, .un, .un, .un, .un, .un] = .nx [.sh (.int c), .sh (.int (s : Nat)), .un, .un, .un, .un, .un] := by
    intro F e
    simp [fDef, sSeq, sLift, sRet, sIf, sSet, sNew, sExp, sNx, sAsg, setT, setAll, sFrz, frz, sRaise, sApp, eB, eU, eC, eV, eW, eCh, eAnd, eOr, eNot, eIf, eTup, eLst, eNeg, eSl, oNone, oSome, aNil, aCons, eCall, Res.bind, Res.of, gI, gLen, gInt, gList, gTuple, gType, tyName, gTyIs, gIsi, gIsN', gNotN', T.isNon, T.isFn, gIx_tup, gIx_lst, gIx_fro, VS.atI_nat, atI_0, atI_1, atI_2, VS.atI_last, gEq_int, gNe_int, gAdd, gSubI, gMul, gMod, gDiv, e]
  have a2 : (sSet 2 (eB gIx (eLst (aCons (eC (.int 1)) (aCons (eC (.int 2)) (aCons (eC (.int 1)) (aCons (eC (.int 2)) (aCons (eC (.int 0)) (aCons (eC (.int 3)) aNil))))))) (eB gMod (eW 1) (eC (.int 6))))) [.sh (.int c), .sh (.int (s : Nat)), .un, .un, .un, .un, .un] = .nx [.sh (.int c), .sh (.int (s : Nat)), .sh (.int (B : Nat)), .un, .un, .un, .un] := by
    generalize (s : Int) = z at *
    simp [fDef, sSeq, sLift, sRet, sIf, sSet, sNew, sExp, sNx, sAsg, setT, setAll, sFrz, frz, sRaise, sApp, eB, eU, eC, eV, eW, eCh, eAnd, eOr, eNot, eIf, eTup, eLst, eNeg, eSl, oNone, oSome, aNil, aCons, eCall, Res.bind, Res.of, gI, gLen, gInt, gList, gTuple, gType, tyName, gTyIs, gIsi, gIsN', gNotN', T.isNon, T.isFn, gIx_tup, gIx_lst, gIx_fro, VS.atI_nat, atI_0, atI_1, atI_2, VS.atI_last, gEq_int, gNe_int, gAdd, gSubI, gMul, gMod, gDiv, e6, eB']
  have a3 : (sSet 3 (eB gAdd (eC (.int 1)) (eB gMod (eB gDiv (eW 1) (eC (.int 6))) (eB gIx (eLst (aCons (eC (.int 4)) (aCons (eC (.int 4)) (aCons (eC (.int 4)) (aCons (eC (.int 2)) aNil))))) (eW 2))))) [.sh (.int c), .sh (.int (s : Nat)), .sh (.int (B : Nat)), .un, .un, .un, .un] = .nx [.sh (.int c), .sh (.int (s : Nat)), .sh (.int (B : Nat)), .sh (.int ((1 + m : Nat) : Int)), .un, .un, .un] := by
    rw [← eM]
    exact sSet_ok (eB_ok rfl (eB_ok (eB_ok rfl rfl (gDiv_ok (by decide) (by decide))) (eB_ok (eLst_ok (aCons_ok rfl (aCons_ok rfl (aCons_ok rfl (aCons_ok rfl rfl)))) (by show 4 ≤ 1000; decide)) rfl (by rw [gIx_lst, VS.atI_nat]; exact eW')) (by rw [gMod_ok pW, em])) rfl)
  have a4 := eN
  have a5 : (sNew 5 (eLst aNil)) [.sh (.int c), .sh (.int (s : Nat)), .sh (.int (B : Nat)), .sh (.int ((1 + m : Nat) : Int)), .sh (.int (N : Nat)), .un, .un] = .nx [.sh (.int c), .sh (.int (s : Nat)), .sh (.int (B : Nat)), .sh (.int ((1 + m : Nat) : Int)), .sh (.int (N : Nat)), .ow (.lst []), .un] := rfl
  have a6 := sFor_ok hrg h1
  unfold bodyP at a6
  have a7 : (eB (gIn true) (eB gIx (eB gIx (eW 5) (eNeg (eC (.int 1)))) (eC (.int 0))) (eTup (aCons (eC (.str "go")) (aCons (eC (.str "stop")) aNil)))) [.sh (.int c), .sh (.int (s' : Nat)), .sh (.int (B : Nat)), .sh (.int ((1 + m : Nat) : Int)), .sh (.int (N : Nat)), .ow (.lst (rs.map Rw.t)), y] = .ok (.bl !r.ends) := by
    generalize rs.map Rw.t = L at hl ⊢
    simp [fDef, sSeq, sLift, sRet, sIf, sSet, sNew, sExp, sNx, sAsg, setT, setAll, sFrz, frz, sRaise, sApp, eB, eU, eC, eV, eW, eCh, eAnd, eOr, eNot, eIf, eTup, eLst, eNeg, eSl, oNone, oSome, aNil, aCons, eCall, Res.bind, Res.of, gI, gLen, gInt, gList, gTuple, gType, tyName, gTyIs, gIsi, gIsN', gNotN', T.isNon, T.isFn, gIx_tup, gIx_lst, gIx_fro, VS.atI_nat, atI_0, atI_1, atI_2, VS.atI_last, gEq_int, gNe_int, gAdd, gSubI, gMul, gMod, gDiv, hl, q3]
  have fin : ∀ L : List T, (sFrz 5 (sRet (eTup (aCons (eV 2) (aCons (eV 3) (aCons (eV 5) aNil)))))) [.sh (.int c), .sh (.int (s' : Nat)), .sh (.int (B : Nat)), .sh (.int ((1 + m : Nat) : Int)), .sh (.int (N : Nat)), .ow (.lst L), y] = .rt (.tup [.int (B : Nat), .int ((1 + m : Nat) : Int), .lst L]) := by
    intro L
    simp [fDef, sSeq, sLift, sRet, sIf, sSet, sNew, sExp, sNx, sAsg, setT, setAll, sFrz, frz, sRaise, sApp, eB, eU, eC, eV, eW, eCh, eAnd, eOr, eNot, eIf, eTup, eLst, eNeg, eSl, oNone, oSome, aNil, aCons, eCall, Res.bind, Res.of, gI, gLen, gInt, gList, gTuple, gType, tyName, gTyIs, gIsi, gIsN', gNotN', T.isNon, T.isFn, gIx_tup, gIx_lst, gIx_fro, VS.atI_nat, atI_0, atI_1, atI_2, VS.atI_last, gEq_int, gNe_int, gAdd, gSubI, gMul, gMod, gDiv]
  have body : ∀ q : List Rw, (sIf (eB (gIn true) (eB gIx (eB gIx (eW 5) (eNeg (eC (.int 1)))) (eC (.int 0))) (eTup (aCons (eC (.str "go")) (aCons (eC (.str "stop")) aNil)))) (sPut 5 (eNeg (eC (.int 1))) (eB gIx (eLst (aCons (eTup (aCons (eC (.str "go")) (aCons (eB gMod (eB gDiv (eW 1) (eC (.int 7))) (eW 4)) aNil))) (aCons (eTup (aCons (eC (.str "stop")) aNil)) aNil))) (eB gDiv (eB gMod (eB gDiv (eW 1) (eC (.int 1000))) (eC (.int 3))) (eC (.int 2))))) sNx) [.sh (.int c), .sh (.int (s' : Nat)), .sh (.int (B : Nat)), .sh (.int ((1 + m : Nat) : Int)), .sh (.int (N : Nat)), .ow (.lst (rs.map Rw.t)), y] = .nx [.sh (.int c), .sh (.int (s' : Nat)), .sh (.int (B : Nat)), .sh (.int ((1 + m : Nat) : Int)), .sh (.int (N : Nat)), .ow (.lst (q.map Rw.t)), y] → m_law_program [.int c] = .ok (Pg.t ⟨B, 1 + m, q⟩) := by
    intro q a8
    show fDef 7 b_law_program [.int c] = _
    have z : b_law_program [.sh (.int c), .un, .un, .un, .un, .un, .un] = .rt (.tup [.int (B : Nat), .int ((1 + m : Nat) : Int), .lst (q.map Rw.t)]) := by
      unfold b_law_program
      rw [sSeq_nx (a1 _ e1), sSeq_nx a2, sSeq_nx a3, sSeq_nx (ρ' := [.sh (.int c), .sh (.int (s : Nat)), .sh (.int (B : Nat)), .sh (.int ((1 + m : Nat) : Int)), .sh (.int (N : Nat)), .un, .un]) (by unfold sSet sLift; rw [a4]; rfl), sSeq_nx a5, sSeq_nx a6, sSeq_nx a8, fin]
    unfold fDef
    show (match b_law_program [.sh (.int c), .un, .un, .un, .un, .un, .un] with | .rt t => Res.ok t | .nx _ => .ok .non | .ex x p _ => .ex x p | _ => .bad) = _
    rw [z]
    rfl
  by_cases hend : r.ends = true
  · refine ⟨⟨B, 1 + m, rs⟩, body rs ?_, ⟨hB3, by show 1 ≤ 1 + m; omega, by show 1 + m ≤ 4; omega, by show 1 ≤ rs.length; omega, by show rs.length ≤ 20; omega, by rw [hlen]; exact h3, fun q hq => by rw [hr] at hq; cases hq; exact hend⟩, by show rs.length ≤ 16; omega⟩
    rw [hend] at a7
    rw [sIf_f a7]
    rfl
  · have hend' : r.ends = false := by cases e : r.ends with | true => exact absurd e hend | false => rfl
    rw [hend'] at a7
    obtain ⟨k2, e2, l2⟩ : ∃ k2 : Nat, (s' : Int) / 1000 % 3 / 2 = (k2 : Int) ∧ k2 < 2 := ⟨((s' : Int) / 1000 % 3 / 2).toNat, by omega, by omega⟩
    obtain ⟨g, eg, lg⟩ := mod_nat ((s' : Int) / 7) N (by omega)
    have pN : (0 : Int) < N := by omega
    have pN' : 0 < N := by omega
    obtain ⟨wr, w1, w2, w3⟩ : ∃ wr : Rw, (eB gIx (eLst (aCons (eTup (aCons (eC (.str "go")) (aCons (eB gMod (eB gDiv (eW 1) (eC (.int 7))) (eW 4)) aNil))) (aCons (eTup (aCons (eC (.str "stop")) aNil)) aNil))) (eB gDiv (eB gMod (eB gDiv (eW 1) (eC (.int 1000))) (eC (.int 3))) (eC (.int 2)))) [.sh (.int c), .sh (.int (s' : Nat)), .sh (.int (B : Nat)), .sh (.int ((1 + m : Nat) : Int)), .sh (.int (N : Nat)), .ow (.lst (rs.map Rw.t)), y] = .ok wr.t ∧ wr.ok B (1 + m) N ∧ wr.ends = true := by
      generalize (s' : Int) = z at *
      by_cases hk : k2 = 0
      · subst hk
        exact ⟨.go g, by simp [fDef, sSeq, sLift, sRet, sIf, sSet, sNew, sExp, sNx, sAsg, setT, setAll, sFrz, frz, sRaise, sApp, eB, eU, eC, eV, eW, eCh, eAnd, eOr, eNot, eIf, eTup, eLst, eNeg, eSl, oNone, oSome, aNil, aCons, eCall, Res.bind, Res.of, gI, gLen, gInt, gList, gTuple, gType, tyName, gTyIs, gIsi, gIsN', gNotN', T.isNon, T.isFn, gIx_tup, gIx_lst, gIx_fro, VS.atI_nat, atI_0, atI_1, atI_2, VS.atI_last, gEq_int, gNe_int, gAdd, gSubI, gMul, gMod, gDiv, e2, eg, pN, pN', Rw.t], by show g < N; omega, rfl⟩
      · obtain rfl : k2 = 1 := by omega
        exact ⟨.stop, by simp [fDef, sSeq, sLift, sRet, sIf, sSet, sNew, sExp, sNx, sAsg, setT, setAll, sFrz, frz, sRaise, sApp, eB, eU, eC, eV, eW, eCh, eAnd, eOr, eNot, eIf, eTup, eLst, eNeg, eSl, oNone, oSome, aNil, aCons, eCall, Res.bind, Res.of, gI, gLen, gInt, gList, gTuple, gType, tyName, gTyIs, gIsi, gIsN', gNotN', T.isNon, T.isFn, gIx_tup, gIx_lst, gIx_fro, VS.atI_nat, atI_0, atI_1, atI_2, VS.atI_last, gEq_int, gNe_int, gAdd, gSubI, gMul, gMod, gDiv, e2, eg, pN, pN', Rw.t], trivial, rfl⟩
    refine ⟨⟨B, 1 + m, rs.set (rs.length - 1) wr⟩, body _ ?_, ⟨hB3, by show 1 ≤ 1 + m; omega, by show 1 + m ≤ 4; omega, by show 1 ≤ (rs.set _ _).length; rw [List.length_set]; omega, by show (rs.set _ _).length ≤ 20; rw [List.length_set]; omega, fun q hq => ?_, fun q hq => ?_⟩, by show (rs.set _ _).length ≤ 16; rw [List.length_set]; omega⟩
    · rw [sIf_t a7, sPut_last rfl w1 (by rw [List.length_map]; omega), List.map_set, List.length_map]
      rfl
    · show q.ok B (1 + m) (rs.set _ _).length
      rw [List.length_set, hlen]
      rcases List.mem_or_eq_of_mem_set hq with m | m
      · exact h3 q m
      · rw [m]; exact w2
    · have := last_set (l := rs) (by omega) wr
      have hq' : (rs.set (rs.length - 1) wr).getLast? = some q := hq
      rw [this] at hq'
      cases hq'
      exact w3
def bodyN : FS := (sSeq (sSet 0 (eCall 1 m_law_next (aCons (eB gAdd (eW 0) (eW 3)) aNil)))
  (sSet 2 (eB gAdd (eW 2) (eTup (aCons (eB gMod (eB gDiv (eW 0) (eC (.int 3))) (eB gAdd (eB gIx (eW 1) (eC (.int 1))) (eC (.int 1)))) aNil)))))
theorem bodyN_ok {p : Pg} {z : Int} {k : Nat} {l : List Nat} (hl : l.length ≤ 10) : ∃ (z1 : Int) (n : Nat), n ≤ p.M ∧ bodyN [.sh (.int z), .sh p.t, .sh (numsT l), .sh (.int (k : Nat))] = .nx [.sh (.int z1), .sh p.t, .sh (numsT (l ++ [n])), .sh (.int (k : Nat))] := by
  obtain ⟨s1, e1⟩ := next_ok (z + (k : Int))
  have pM : (0 : Int) < (p.M : Int) + 1 := by omega
  obtain ⟨n, en, ln⟩ := mod_nat ((s1 : Int) / 3) ((p.M : Int) + 1) pM
  refine ⟨s1, n, by omega, ?_⟩
  have a1 : ∀ F : Mir, F [.int (z + (k : Int))] = .ok (.int (s1 : Nat)) → (sSet 0 (eCall 1 F (aCons (eB gAdd (eW 0) (eW 3)) aNil))) [.sh (.int z), .sh p.t, .sh (numsT l), .sh (.int (k : Nat))] = .nx [.sh (.int (s1 : Nat)), .sh p.t, .sh (numsT l), .sh (.int (k : Nat))] := by
    intro F e
    simp [fDef, sSeq, sLift, sRet, sIf, sSet, sNew, sExp, sNx, sAsg, setT, setAll, sFrz, frz, sRaise, sApp, eB, eU, eC, eV, eW, eCh, eAnd, eOr, eNot, eIf, eTup, eLst, eNeg, eSl, oNone, oSome, aNil, aCons, eCall, Res.bind, Res.of, gI, gLen, gInt, gList, gTuple, gType, tyName, gTyIs, gIsi, gIsN', gNotN', T.isNon, T.isFn, gIx_tup, gIx_lst, gIx_fro, VS.atI_nat, atI_0, atI_1, atI_2, VS.atI_last, gEq_int, gNe_int, gAdd, gSubI, gMul, gMod, gDiv, e]
  unfold bodyN
  rw [sSeq_nx (a1 _ e1)]
  have hl2 : l.length + 1 ≤ 100000 := le_big (by omega)
  unfold Pg.t numsT
  generalize (s1 : Int) = w at *
  simp [fDef, sSeq, sLift, sRet, sIf, sSet, sNew, sExp, sNx, sAsg, setT, setAll, sFrz, frz, sRaise, sApp, eB, eU, eC, eV, eW, eCh, eAnd, eOr, eNot, eIf, eTup, eLst, eNeg, eSl, oNone, oSome, aNil, aCons, eCall, Res.bind, Res.of, gI, gLen, gInt, gList, gTuple, gType, tyName, gTyIs, gIsi, gIsN', gNotN', T.isNon, T.isFn, gIx_tup, gIx_lst, gIx_fro, VS.atI_nat, atI_0, atI_1, atI_2, VS.atI_last, gEq_int, gNe_int, gAdd, gSubI, gMul, gMod, gDiv, en, pM, hl2]
theorem numbers_ok {p : Pg} (hp : p.ok) (c : Int) : ∃ l : List Nat, m_law_numbers [.int c, p.t] = .ok (numsT l) ∧ Nums p l := by
  have hB := hp.b3
  obtain ⟨ρ', h1, z, l, y, h2, h3, h4⟩ := loop_nx (i := 3) (body := bodyN) (fun n ρ => ∃ (z : Int) (l : List Nat) (y : Sl), ρ = [.sh (.int z), .sh p.t, .sh (numsT l), y] ∧ l.length = n ∧ ∀ k ∈ l, k ≤ p.M)
    ((List.range p.B).map fun i => .int (i : Nat)) 0 [.sh (.int c), .sh p.t, .sh (numsT []), .un] ⟨c, [], .un, rfl, rfl, fun r m => nomatch m⟩ (by
      rintro t m n h1 h2 ρ ⟨s, rs, y, rfl, h4, h5⟩
      obtain ⟨k, _, rfl⟩ := List.mem_map.mp m
      rw [List.length_map, List.length_range] at h2
      obtain ⟨s1, r, hr, e3⟩ := bodyN_ok (p := p) (z := s) (k := k) (l := rs) (by omega)
      refine ⟨_, e3, s1, rs ++ [r], _, rfl, by rw [List.length_append, List.length_singleton, h4], fun q m => ?_⟩
      rcases List.mem_append.mp m with m | m
      · exact h5 q m
      · rw [List.mem_singleton.mp m]; exact hr)
  rw [List.length_map, List.length_range, Nat.zero_add] at h3
  subst h2
  refine ⟨l, ?_, h3, h4⟩
  have hNN : (-100000 : Int) ≤ (p.B : Nat) ∧ ((p.B : Nat) : Int) ≤ 100000 := ⟨by omega, by omega⟩
  have hrg : iRg (eB gIx (eW 1) (eC (.int 0))) [.sh (.int c), .sh p.t, .sh (numsT []), .un] = .ok ((List.range p.B).map fun i => .int (i : Nat)) := by
    simp only [iRg, fDef, sSeq, sLift, sRet, sIf, sSet, sNew, sExp, sNx, sAsg, setT, setAll, sFrz, frz, sRaise, sApp, eB, eU, eC, eV, eW, eCh, eAnd, eOr, eNot, eIf, eTup, eLst, eNeg, eSl, oNone, oSome, aNil, aCons, eCall, Res.bind, Res.of, gI, gLen, gInt, gList, gTuple, gType, tyName, gTyIs, gIsi, gIsN', gNotN', T.isNon, T.isFn, gIx_tup, gIx_lst, gIx_fro, VS.atI_nat, atI_0, atI_1, atI_2, VS.atI_last, gEq_int, gNe_int, gAdd, gSubI, gMul, gMod, gDiv, Pg.t, List.getElem?_cons_zero, List.getElem?_cons_succ, if_pos hNN, Int.toNat_natCast]
  have a6 := sFor_ok hrg h1
  unfold bodyN at a6
  have z1 : b_law_numbers [.sh (.int c), .sh p.t, .un, .un] = .rt (numsT l) := by
    unfold b_law_numbers
    have a0 : (sSet 2 (eTup aNil)) [.sh (.int c), .sh p.t, .un, .un] = .nx [.sh (.int c), .sh p.t, .sh (numsT []), .un] := rfl
    rw [sSeq_nx a0, sSeq_nx a6]
    rfl
  show (match b_law_numbers [.sh (.int c), .sh p.t, .un, .un] with | .rt t => Res.ok t | .nx _ => .ok .non | .ex x p _ => .ex x p | _ => .bad) = _
  rw [z1]
end K11

namespace K11
open PySem PySem.Spec PyProof.Rows L2 Evl VS
/-! ### rules -/
inductive Rl where
  | is (v : Option Nat) | by_ (b : Nat) (ns : List (Option Nat))
def Rl.t : Rl → T
  | .is v => .tup [.str "is", oN v]
  | .by_ b ns => .tup [.str "by", .int b, .tup (ns.map oN)]
def Rl.ok (p q : Pg) : Rl → Prop
  | .is v => ∀ n, v = some n → n ≤ q.M
  | .by_ b ns => b < p.B ∧ ns.length = p.M + 1 ∧ ∀ n, some n ∈ ns → n ≤ q.M
def rulesT (rs : List Rl) : T := .tup (rs.map Rl.t)
structure Rls (p q : Pg) (rs : List Rl) : Prop where
  len : rs.length = q.B
  ok : ∀ r ∈ rs, r.ok p q
/-- a number, or None -/
theorem pick_ok {fa fc : FE} {ρ : Ev'} {n : Nat} {c : Bool} (h1 : fa ρ = .ok (.int (n : Nat))) (h2 : fc ρ = .ok (.bl c)) :
    (eB gIx (eLst (aCons fa (aCons (eC .non) aNil))) (eU gInt fc)) ρ = .ok (oN (if c = true then none else some n)) := by
  cases c <;> simp [eB, eLst, aCons, aNil, eC, eU, Res.bind, Res.of, gInt, h1, h2, gIx_lst, atI_0, atI_1, oN]
def bodyRl : FS := (sApp 3 (eB gIx (eLst (aCons (eB gMod (eB gDiv (eW 0) (eB gAdd (eC (.int 4)) (eB gMul (eC (.int 5)) (eW 4)))) (eB gAdd (eB gIx (eW 2) (eC (.int 1))) (eC (.int 1)))) (aCons (eC .non) aNil))) (eU gInt (eB gEq (eB gMod (eB gDiv (eW 0) (eB gAdd (eC (.int 40)) (eB gMul (eC (.int 7)) (eW 4)))) (eC (.int 23))) (eC (.int 1))))))
theorem bodyRl_ok {s : Int} {p q : Pg} {ns : List (Option Nat)} {k : Nat} (hk : k ≤ 10) (hl : ns.length ≤ 1000) : ∃ v : Option Nat, (∀ n, v = some n → n ≤ q.M) ∧
    bodyRl [.sh (.int s), .sh p.t, .sh q.t, .ow (.lst (ns.map oN)), .sh (.int (k : Nat))] = .nx [.sh (.int s), .sh p.t, .sh q.t, .ow (.lst ((ns ++ [v]).map oN)), .sh (.int (k : Nat))] := by
  have pM : (0 : Int) < (q.M : Int) + 1 := by omega
  obtain ⟨n, en, ln⟩ := mod_nat (s / (4 + 5 * (k : Int))) ((q.M : Int) + 1) pM
  have d1 := gDiv_ok (a := s) (b := 4 + 5 * (k : Int)) (by omega) (by omega)
  have d2 := gDiv_ok (a := s) (b := 40 + 7 * (k : Int)) (by omega) (by omega)
  have m1 := gMod_ok (a := s / (4 + 5 * (k : Int))) pM
  rw [en] at m1
  have m2 := gMod_ok (a := s / (40 + 7 * (k : Int))) (b := 23) (by decide)
  have w1 : gMul (.int 5) (.int (k : Int)) = some (.int (5 * (k : Int))) := by unfold gMul; simp
  have w2 : gMul (.int 7) (.int (k : Int)) = some (.int (7 * (k : Int))) := by unfold gMul; simp
  have h1 : (eB gMod (eB gDiv (eW 0) (eB gAdd (eC (.int 4)) (eB gMul (eC (.int 5)) (eW 4)))) (eB gAdd (eB gIx (eW 2) (eC (.int 1))) (eC (.int 1)))) [.sh (.int s), .sh p.t, .sh q.t, .ow (.lst (ns.map oN)), .sh (.int (k : Nat))] = .ok (.int (n : Nat)) := by
    unfold Pg.t
    simp [eB, eW, eC, Res.bind, Res.of, w1, gAdd, d1, gIx_tup, atI_1, m1]
  have h2 : (eB gEq (eB gMod (eB gDiv (eW 0) (eB gAdd (eC (.int 40)) (eB gMul (eC (.int 7)) (eW 4)))) (eC (.int 23))) (eC (.int 1))) [.sh (.int s), .sh p.t, .sh q.t, .ow (.lst (ns.map oN)), .sh (.int (k : Nat))] = .ok (.bl (decide (s / (40 + 7 * (k : Int)) % 23 = 1))) := by
    simp [eB, eW, eC, Res.bind, Res.of, w2, gAdd, d2, m2, gEq_int]
  refine ⟨if decide (s / (40 + 7 * (k : Int)) % 23 = 1) = true then none else some n, fun m e => ?_, ?_⟩
  · split at e
    · cases e
    · cases e; omega
  · unfold bodyRl
    rw [sApp_ok rfl (pick_ok h1 h2) (by rw [List.length_map]; exact lt_big hl), List.map_append]
    rfl
theorem rule_ok (s : Int) {p q : Pg} (hp : p.ok) (hq : q.ok) : ∃ r : Rl, m_law_rule [.int s, p.t, q.t] = .ok r.t ∧ r.ok p q := by
  have pM : (0 : Int) < (q.M : Int) + 1 := by omega
  have hB := hp.b3
  have hM := hp.m4
  by_cases c : (p.B : Int) = 0 ∨ s % 4 = 0
  · obtain ⟨n, en, ln⟩ := mod_nat (s / 4) ((q.M : Int) + 1) pM
    have m1 := gMod_ok (a := s / 4) pM
    rw [en] at m1
    have d1 := gDiv_ok (a := s) (b := 4) (by decide) (by decide)
    have d2 := gDiv_ok (a := s) (b := 40) (by decide) (by decide)
    have m2 := gMod_ok (a := s / 40) (b := 13) (by decide)
    have h1 : (eB gMod (eB gDiv (eW 0) (eC (.int 4))) (eB gAdd (eB gIx (eW 2) (eC (.int 1))) (eC (.int 1)))) [.sh (.int s), .sh p.t, .sh q.t, .un, .un] = .ok (.int (n : Nat)) := by
      unfold Pg.t
      simp [eB, eW, eC, Res.bind, Res.of, gAdd, d1, gIx_tup, atI_1, m1]
    have h2 : (eB gEq (eB gMod (eB gDiv (eW 0) (eC (.int 40))) (eC (.int 13))) (eC (.int 1))) [.sh (.int s), .sh p.t, .sh q.t, .un, .un] = .ok (.bl (decide (s / 40 % 13 = 1))) := by
      simp [eB, eW, eC, Res.bind, Res.of, d2, m2, gEq_int]
    have h3 := pick_ok h1 h2
    have g0 : gIx p.t (.int 0) = some (.int p.B) := rfl
    have h4 : (eOr (eB gEq (eB gIx (eW 1) (eC (.int 0))) (eC (.int 0))) (eB gEq (eB gMod (eW 0) (eC (.int 4))) (eC (.int 0)))) [.sh (.int s), .sh p.t, .sh q.t, .un, .un] = .ok (.bl true) := by
      have k := eOr_bl (fa := eB gEq (eB gIx (eW 1) (eC (.int 0))) (eC (.int 0))) (fb := eB gEq (eB gMod (eW 0) (eC (.int 4))) (eC (.int 0))) (ρ := [.sh (.int s), .sh p.t, .sh q.t, .un, .un]) (eB_ok (eB_ok rfl rfl g0) rfl (gEq_int _ _)) fun _ => eB_ok (eB_ok rfl rfl (gMod_ok (by decide))) rfl (gEq_int _ _)
      rw [k]
      rcases c with c | c
      · rw [decide_eq_true c, Bool.true_or]
      · rw [decide_eq_true c, Bool.or_true]
    refine ⟨.is (if decide (s / 40 % 13 = 1) = true then none else some n), fDef_rt (sSeq_rt ?_), fun m e => ?_⟩
    · show (sIf _ _ _) [.sh (.int s), .sh p.t, .sh q.t, .un, .un] = _
      rw [sIf_t h4]
      simp only [sRet, sLift, eTup, aCons, aNil, Res.bind, h3, eC]
      simp [Rl.t]
    · split at e
      · cases e
      · cases e; omega
  · have g0 : gIx p.t (.int 0) = some (.int p.B) := rfl
    have h4 : (eOr (eB gEq (eB gIx (eW 1) (eC (.int 0))) (eC (.int 0))) (eB gEq (eB gMod (eW 0) (eC (.int 4))) (eC (.int 0)))) [.sh (.int s), .sh p.t, .sh q.t, .un, .un] = .ok (.bl false) := by
      have k := eOr_bl (fa := eB gEq (eB gIx (eW 1) (eC (.int 0))) (eC (.int 0))) (fb := eB gEq (eB gMod (eW 0) (eC (.int 4))) (eC (.int 0))) (ρ := [.sh (.int s), .sh p.t, .sh q.t, .un, .un]) (eB_ok (eB_ok rfl rfl g0) rfl (gEq_int _ _)) fun _ => eB_ok (eB_ok rfl rfl (gMod_ok (by decide))) rfl (gEq_int _ _)
      rw [k, decide_eq_false fun z => c (.inl z), decide_eq_false fun z => c (.inr z)]
      rfl
    have pB : (0 : Int) < p.B := by
      have c1 : ¬ (p.B : Int) = 0 := fun z => c (.inl z)
      omega
    obtain ⟨b, eb, lb⟩ := mod_nat (s / 400) (p.B : Int) pB
    obtain ⟨ρ', h1, ns, y, h2, h3, h5⟩ := loop_nx (i := 4) (body := bodyRl) (fun n ρ => ∃ (ns : List (Option Nat)) (y : Sl), ρ = [.sh (.int s), .sh p.t, .sh q.t, .ow (.lst (ns.map oN)), y] ∧ ns.length = n ∧ ∀ k, some k ∈ ns → k ≤ q.M)
      ((List.range (p.M + 1)).map fun i => .int (i : Nat)) 0 [.sh (.int s), .sh p.t, .sh q.t, .ow (.lst []), .un] ⟨[], .un, rfl, rfl, fun r m => nomatch m⟩ (by
        rintro t m n h1 h2 ρ ⟨ns, y, rfl, h4, h5⟩
        obtain ⟨k, hk, rfl⟩ := List.mem_map.mp m
        rw [List.length_map, List.length_range] at h2
        rw [List.mem_range] at hk
        obtain ⟨v, hv, e3⟩ := bodyRl_ok (s := s) (p := p) (q := q) (ns := ns) (k := k) (by omega) (by omega)
        refine ⟨_, e3, ns ++ [v], _, rfl, by rw [List.length_append, List.length_singleton, h4], fun q m => ?_⟩
        rcases List.mem_append.mp m with m | m
        · exact h5 q m
        · exact hv q (List.mem_singleton.mp m).symm)
    rw [List.length_map, List.length_range, Nat.zero_add] at h3
    subst h2
    have hrg : iRg (eB gAdd (eB gIx (eW 1) (eC (.int 1))) (eC (.int 1))) [.sh (.int s), .sh p.t, .sh q.t, .ow (.lst []), .un] = .ok ((List.range (p.M + 1)).map fun i => .int (i : Nat)) := by
      have hNN : (-100000 : Int) ≤ (p.M : Int) + 1 ∧ ((p.M : Int) + 1) ≤ 100000 := ⟨by omega, by omega⟩
      have e1 : ((p.M : Int) + 1).toNat = p.M + 1 := by omega
      unfold Pg.t
      simp only [iRg, eB, eW, eC, Res.bind, Res.of, gIx_tup, atI_1, gAdd, List.getElem?_cons_zero, List.getElem?_cons_succ, if_pos hNN, e1]
    have a6 := sFor_ok hrg h1
    refine ⟨.by_ b ns, fDef_rt ?_, by show b < p.B; omega, h3, h5⟩
    show b_law_rule [.sh (.int s), .sh p.t, .sh q.t, .un, .un] = _
    have a0 : (sIf (eOr (eB gEq (eB gIx (eW 1) (eC (.int 0))) (eC (.int 0))) (eB gEq (eB gMod (eW 0) (eC (.int 4))) (eC (.int 0)))) (sRet (eTup (aCons (eC (.str "is")) (aCons (eB gIx (eLst (aCons (eB gMod (eB gDiv (eW 0) (eC (.int 4))) (eB gAdd (eB gIx (eW 2) (eC (.int 1))) (eC (.int 1)))) (aCons (eC .non) aNil))) (eU gInt (eB gEq (eB gMod (eB gDiv (eW 0) (eC (.int 40))) (eC (.int 13))) (eC (.int 1))))) aNil)))) sNx) [.sh (.int s), .sh p.t, .sh q.t, .un, .un] = .nx [.sh (.int s), .sh p.t, .sh q.t, .un, .un] := by
      rw [sIf_f h4]
      rfl
    have a1 : (sNew 3 (eLst aNil)) [.sh (.int s), .sh p.t, .sh q.t, .un, .un] = .nx [.sh (.int s), .sh p.t, .sh q.t, .ow (.lst []), .un] := rfl
    unfold b_law_rule
    unfold bodyRl at a6
    rw [sSeq_nx a0, sSeq_nx a1, sSeq_nx a6]
    have d1 := gDiv_ok (a := s) (b := 400) (by decide) (by decide)
    have m1 := gMod_ok (a := s / 400) pB
    rw [eb] at m1
    have g1 : gIx p.t (.int 0) = some (.int p.B) := rfl
    simp [sRet, sLift, eTup, aCons, aNil, eB, eU, eC, eW, Res.bind, Res.of, d1, g1, m1, gTuple, Rl.t]
theorem rules_gen {fi : FI} {i : Nat} {is : List Nat} {fe : FE} {ρ : Ev'} {p q : Pg} (hq : q.ok) (hi : fi ρ = .ok ((List.range q.B).map fun k => .int (k : Nat)))
    (h : ∀ k, k < q.B → ∃ r : Rl, fe ((wipeE ρ is).set i (.sh (.int (k : Nat)))) = .ok r.t ∧ r.ok p q) :
    ∃ rs, Rls p q rs ∧ (eU gTuple (eComp fi (.nm i) is (eC (.bl true)) fe)) ρ = .ok (rulesT rs) := by
  have h' : ∀ k, ∃ r : Rl, k < q.B → fe ((wipeE ρ is).set i (.sh (.int (k : Nat)))) = .ok r.t ∧ r.ok p q := fun k => by
    by_cases c : k < q.B
    · obtain ⟨r, hr⟩ := h k c
      exact ⟨r, fun _ => hr⟩
    · exact ⟨.is none, fun z => absurd z c⟩
  obtain ⟨R, hR⟩ := Classical.axiomOfChoice h'
  refine ⟨(List.range q.B).map R, ⟨by rw [List.length_map, List.length_range], fun r m => ?_⟩, ?_⟩
  · obtain ⟨k, hk, rfl⟩ := List.mem_map.mp m
    exact (hR k (List.mem_range.mp hk)).2
  · have e := eComp_map (f := fun k => (R k).t) hi (by rw [List.length_range]; have := hq.b3; omega) fun k m => (hR k (List.mem_range.mp m)).1
    refine eU_ok e ?_
    unfold rulesT
    rw [List.map_map]
    rfl
theorem okON (n : Nat) : ∀ l : List (Option Nat), okDs n (l.map oN) = true
  | [] => okDs_nil n
  | x :: xs => by
    rw [List.map_cons, okDs_cons, okON n xs]
    cases x with
    | none => rw [oN, okD_non]; rfl
    | some x => rw [oN, okD_int]; rfl
theorem okNs (n : Nat) (l : List Nat) : okDs n (l.map fun k => T.int (k : Nat)) = true := by
  induction l with
  | nil => exact okDs_nil n
  | cons x xs ih => rw [List.map_cons, okDs_cons, okD_int, ih]; rfl
theorem ok_numsT (n : Nat) (l : List Nat) : okD (n + 1) (numsT l) = true := by
  unfold numsT
  rw [okD_tup, okNs]
end K11

namespace K11
open PySem PySem.Spec PyProof.Rows L2 Evl VS
/-! ### places -/
structure Pl where
  row : Nat
  other : Nat
  rules : List Rl
def Pl.t (x : Pl) : T := .tup [.int x.row, .int x.other, rulesT x.rules]
structure Pl.ok (p q : Pg) (x : Pl) : Prop where
  row : x.row < p.rows.length
  other : x.other < q.rows.length
  rules : Rls p q x.rules
structure Pls (p q : Pg) (ps : List Pl) : Prop where
  ok : ∀ x ∈ ps, x.ok p q
  nd : (ps.map Pl.row).Nodup
  len : ps.length ≤ p.rows.length
theorem take_drop_mem {α : Type} {l : List α} {n : Nat} {x y : α} (h : y ∈ l.take n ++ [x] ++ l.drop n) : y = x ∨ y ∈ l := by
  rw [List.append_assoc, List.mem_append, List.mem_append, List.mem_singleton] at h
  rcases h with h | h | h
  · exact .inr (List.mem_of_mem_take h)
  · exact .inl h
  · exact .inr (List.mem_of_mem_drop h)
theorem ins_nodup {l : List Nat} {x n : Nat} (h : l.Nodup) (hx : x ∉ l) : (l.take n ++ [x] ++ l.drop n).Nodup := by
  have q : (l.take n ++ [x] ++ l.drop n).Perm (x :: l) := by
    have e : l.take n ++ [x] ++ l.drop n = l.take n ++ x :: l.drop n := by simp
    rw [e]
    refine List.perm_middle.trans ?_
    rw [List.take_append_drop]
  exact q.nodup_iff.mpr (List.nodup_cons.mpr ⟨hx, h⟩)
theorem places_ok (c : Int) {p q : Pg} (hp : p.ok) (hq : q.ok) : ∃ ps, m_law_places [.int c, p.t, q.t] = .ok (.lst (ps.map Pl.t)) ∧ Pls p q ps := by
  have hN := hp.n20
  have pN : (0 : Int) < q.rows.length := by have := hq.n1; omega
  have gp : gIx p.t (.int 2) = some (.lst (p.rows.map Rw.t)) := rfl
  have gq : gIx q.t (.int 2) = some (.lst (q.rows.map Rw.t)) := rfl
  have gq0 : gIx q.t (.int 0) = some (.int q.B) := rfl
  have hnx : ∀ z : Int, ∃ r : Nat, m_law_next [.int z] = .ok (.int (r : Nat)) := fun k => next_ok _
  have hrl : ∀ s : Nat, ∃ r : Rl, m_law_rule [.int (s : Nat), p.t, q.t] = .ok r.t ∧ r.ok p q := fun s => rule_ok s hp hq
  obtain ⟨t, h1, ps, rfl, h2⟩ : ∃ t, m_law_places [.int c, p.t, q.t] = .ok t ∧ ∃ ps : List Pl, t = .lst (ps.map Pl.t) ∧ Pls p q ps := by
    refine def_P ?_
    show Good _ (b_law_places [.sh (.int c), .sh p.t, .sh q.t, .un, .un, .un, .un, .un])
    unfold b_law_places
    generalize m_law_next = F1 at *
    generalize m_law_rule = F2 at *
    refine pNew rfl ?_
    obtain ⟨s, hs⟩ := hnx c
    refine pSet (eCall_ok (aCons_ok rfl rfl) rfl hs) ?_
    simp only [List.set_cons_succ, List.set_cons_zero]
    refine pForR (fun n ρ => ∃ (s : Nat) (ps : List Pl) (x y z : Sl), ρ = [.sh (.int c), .sh p.t, .sh q.t, .ow (.lst (ps.map Pl.t)), .sh (.int (s : Nat)), x, y, z] ∧ (∀ x ∈ ps, x.ok p q ∧ x.row < n) ∧ (ps.map Pl.row).Nodup ∧ ps.length ≤ n) (N := p.rows.length)
      (iRg_ok (eU_ok (eB_ok rfl rfl gp) (gLen_map _ _)) (by omega)) ⟨s, [], .un, .un, .un, rfl, fun x m => (nomatch m), by simp, Nat.le_refl _⟩ ?_ ?_
    · rintro k hk ρ ⟨s, ps, x, y, z, rfl, i1, i2, i3⟩
      obtain ⟨s1, hs1⟩ := hnx ((s : Int) + (k : Int))
      obtain ⟨m3, em3, lm3⟩ := mod_nat (s1 : Int) 3 (by decide)
      refine pSet (eCall_ok (aCons_ok (eB_ok rfl rfl rfl) rfl) rfl hs1) ?_
      simp only [List.set_cons_succ, List.set_cons_zero]
      have g3 : gMod (.int (s1 : Nat)) (.int 3) = some (.int (m3 : Nat)) := by rw [gMod_ok (by decide), em3]
      refine pIf (b := decide ((0 : Int) < (m3 : Nat))) (eB_ok (eB_ok rfl rfl g3) rfl rfl) (fun _ => ?_) (fun _ => ?_)
      · obtain ⟨rs, hrs, e4⟩ := rules_gen (fi := iRg (eB gIx (eW 2) (eC (.int 0)))) (i := 7) (is := [7]) (fe := eCall 3 F2 (aCons (eCall 1 F1 (aCons (eB gAdd (eW 4) (eB gMul (eC (.int 7)) (eW 7))) aNil)) (aCons (eV 1) (aCons (eV 2) aNil))))
          (ρ := [.sh (.int c), .sh p.t, .sh q.t, .ow (.lst (ps.map Pl.t)), .sh (.int (s1 : Nat)), .sh (.int (k : Nat)), y, z]) (p := p) (q := q) hq (iRg_ok (eB_ok rfl rfl gq0) (by have := hq.b3; omega)) fun j hj => by
            obtain ⟨r, hr⟩ := hnx ((s1 : Int) + 7 * (j : Int))
            obtain ⟨rl, h1, h2⟩ := hrl r
            exact ⟨rl, eCall_ok (aCons_ok (eCall_ok (aCons_ok (eB_ok rfl (eB_ok rfl rfl (gMulL (by decide) (by decide))) rfl) rfl) rfl hr) (aCons_ok rfl (aCons_ok rfl rfl))) rfl h1, h2⟩
        refine pSet e4 ?_
        simp only [List.set_cons_succ, List.set_cons_zero]
        obtain ⟨o, eo, lo⟩ := mod_nat ((s1 : Int) / 5) q.rows.length pN
        obtain ⟨at_, ea, la⟩ := mod_nat ((s1 : Int) / 9) ((ps.length : Int) + 1) (by omega)
        have d9 := gDiv_ok (a := (s1 : Int)) (b := 9) (by decide) (by decide)
        have d5 := gDiv_ok (a := (s1 : Int)) (b := 5) (by decide) (by decide)
        have m9 : gMod (.int ((s1 : Int) / 9)) (.int ((ps.length : Int) + 1)) = some (.int (at_ : Nat)) := by rw [gMod_ok (by omega), ea]
        have m5 : gMod (.int ((s1 : Int) / 5)) (.int (q.rows.length : Nat)) = some (.int (o : Nat)) := by rw [gMod_ok pN, eo]
        refine ⟨_, sIns_ok (i := 3) (l := ps.map Pl.t) (n := at_) (t := Pl.t ⟨k, o, rs⟩) rfl (eB_ok (eB_ok rfl rfl d9) (eB_ok (eU_ok rfl (gLen_map _ _)) rfl rfl) m9) ?_ (by rw [List.length_map]; omega) (by omega), s1, ps.take at_ ++ [⟨k, o, rs⟩] ++ ps.drop at_, .sh (.int (k : Nat)), .sh (rulesT rs), z, ?_, ?_, ?_, ?_⟩
        · exact eTup_ok (aCons_ok rfl (aCons_ok (eB_ok (eB_ok rfl rfl d5) (eU_ok (eB_ok rfl rfl gq) (gLen_map _ _)) m5) (aCons_ok rfl rfl))) (by show 3 ≤ 1000; decide)
        · simp only [List.set_cons_succ, List.set_cons_zero, List.map_append, List.map_take, List.map_drop, List.map_cons, List.map_nil]
        · intro x mx
          rcases take_drop_mem mx with rfl | mx
          · exact ⟨⟨hk, by show o < q.rows.length; omega, hrs⟩, Nat.lt_succ_self k⟩
          · exact ⟨(i1 x mx).1, Nat.lt_succ_of_lt (i1 x mx).2⟩
        · rw [List.map_append, List.map_append, List.map_take, List.map_drop]
          refine ins_nodup i2 fun mx => ?_
          obtain ⟨x, hx, ex⟩ := List.mem_map.mp mx
          have := (i1 x hx).2
          have ex' : x.row = k := ex
          omega
        · rw [List.length_append, List.length_append, List.length_singleton, List.length_take, List.length_drop]
          omega
      · exact ⟨_, rfl, s1, ps, _, _, _, rfl, fun x mx => ⟨(i1 x mx).1, Nat.lt_succ_of_lt (i1 x mx).2⟩, i2, by omega⟩
    · rintro ρ ⟨s, ps, x, y, z, rfl, i1, i2, i3⟩
      exact ⟨.lst (ps.map Pl.t), rfl, ps, rfl, ⟨fun x m => (i1 x m).1, i2, i3⟩⟩
  exact ⟨ps, h1, h2⟩
end K11

namespace K11
open PySem PySem.Spec PyProof.Rows L2 Evl VS
/-! ### the data -/
/-- plain things -/
def pln (t : T) : Bool := (tyName t).isSome
def wh (t : T) (lo hi : Int) : Bool := match t with
  | .int i => decide (lo ≤ i) && decide (i ≤ hi)
  | _ => false
theorem whole_eq (t : T) (lo hi : Int) (h : pln t = true) : m_whole [t, .int lo, .int hi] = .ok (.bl (wh t lo hi)) := by
  cases t <;> first | (cases h; done) | skip
  all_goals first | (simp [m_whole, b_whole, wh, fDef, sSeq, sLift, sRet, sIf, sSet, sNew, sExp, sNx, sAsg, setT, setAll, sFrz, frz, sRaise, sApp, eB, eU, eC, eV, eW, eCh, eAnd, eOr, eNot, eIf, eTup, eLst, eNeg, eSl, oNone, oSome, aNil, aCons, eCall, Res.bind, Res.of, gI, gLen, gInt, gList, gTuple, gType, tyName, gTyIs, gIsi, gIsN', gNotN', T.isNon, T.isFn, gIx_tup, gIx_lst, gIx_fro, VS.atI_nat, atI_0, atI_1, atI_2, VS.atI_last, gEq_int, gNe_int, gAdd, gSubI, gMul, gMod, gDiv]; done) | skip
  rename_i i
  by_cases h1 : lo ≤ i <;> by_cases h2 : i ≤ hi <;> simp [m_whole, b_whole, wh, fDef, sSeq, sLift, sRet, sIf, sSet, sNew, sExp, sNx, sAsg, setT, setAll, sFrz, frz, sRaise, sApp, eB, eU, eC, eV, eW, eCh, eAnd, eOr, eNot, eIf, eTup, eLst, eNeg, eSl, oNone, oSome, aNil, aCons, eCall, Res.bind, Res.of, gI, gLen, gInt, gList, gTuple, gType, tyName, gTyIs, gIsi, gIsN', gNotN', T.isNon, T.isFn, gIx_tup, gIx_lst, gIx_fro, VS.atI_nat, atI_0, atI_1, atI_2, VS.atI_last, gEq_int, gNe_int, gAdd, gSubI, gMul, gMod, gDiv, h1, h2]
theorem whole_nat (n lo hi : Nat) : m_whole [.int (n : Nat), .int (lo : Nat), .int (hi : Nat)] = .ok (.bl (decide (lo ≤ n) && decide (n ≤ hi))) := by
  rw [whole_eq _ _ _ rfl]
  simp [wh]

theorem pk_put : gGGet tbl_PARTS (.str "put") = some (.tup [.str "box", .str "number"]) := by rfl
theorem pk_more : gGGet tbl_PARTS (.str "more") = some (.tup [.str "box"]) := by rfl
theorem pk_copy : gGGet tbl_PARTS (.str "copy") = some (.tup [.str "box", .str "box"]) := by rfl
theorem pk_tell : gGGet tbl_PARTS (.str "tell") = some (.tup [.str "box"]) := by rfl
theorem pk_go : gGGet tbl_PARTS (.str "go") = some (.tup [.str "row"]) := by rfl
theorem pk_ask : gGGet tbl_PARTS (.str "ask") = some (.tup [.str "box", .str "row"]) := by rfl
theorem pk_stop : gGGet tbl_PARTS (.str "stop") = some (.tup []) := by rfl
theorem pi_put : gGIn true tbl_PARTS miss_PARTS (.str "put") = some (.bl false) := by rfl
theorem pi_more : gGIn true tbl_PARTS miss_PARTS (.str "more") = some (.bl false) := by rfl
theorem pi_copy : gGIn true tbl_PARTS miss_PARTS (.str "copy") = some (.bl false) := by rfl
theorem pi_tell : gGIn true tbl_PARTS miss_PARTS (.str "tell") = some (.bl false) := by rfl
theorem pi_go : gGIn true tbl_PARTS miss_PARTS (.str "go") = some (.bl false) := by rfl
theorem pi_ask : gGIn true tbl_PARTS miss_PARTS (.str "ask") = some (.bl false) := by rfl
theorem pi_stop : gGIn true tbl_PARTS miss_PARTS (.str "stop") = some (.bl false) := by rfl
theorem dg_box (a b c : T) : gDGet (.dic [.str "box", .str "number", .str "row"] [a, b, c]) (.str "box") = some a := by rfl
theorem dg_number (a b c : T) : gDGet (.dic [.str "box", .str "number", .str "row"] [a, b, c]) (.str "number") = some b := by rfl
theorem dg_row (a b c : T) : gDGet (.dic [.str "box", .str "number", .str "row"] [a, b, c]) (.str "row") = some c := by rfl
theorem disp3 (f g h : FE) (ρ : Ev') : eDisp [("box", f), ("number", g), ("row", h)] ρ = (f ρ).bind fun a => (g ρ).bind fun b => (h ρ).bind fun c => .ok (.dic [.str "box", .str "number", .str "row"] [a, b, c]) := by
  unfold eDisp
  simp only [evs]
  cases f ρ with
  | ok a =>
    cases g ρ with
    | ok b =>
      cases h ρ with
      | ok c =>
        simp only [Res.bind]
        rw [if_pos ⟨(by decide +kernel : (["box", "number", "row"] : List Str).Nodup), (by decide : 3 ≤ 15)⟩]
        rfl
      | ex x p => rfl
      | bad => rfl
    | ex x p => rfl
    | bad => rfl
  | ex x p => rfl
  | bad => rfl
theorem wh_box {b B : Nat} (h : b < B) : m_whole [.int (b : Nat), .int 0, .int ((B : Nat) - 1)] = .ok (.bl true) := by
  rw [whole_eq _ _ _ rfl]
  simp only [wh]
  rw [decide_eq_true (by omega : (0 : Int) ≤ b), decide_eq_true (by omega : (b : Int) ≤ (B : Int) - 1)]
  rfl
theorem wh_num {b B : Nat} (h : b ≤ B) : m_whole [.int (b : Nat), .int 0, .int (B : Nat)] = .ok (.bl true) := by
  rw [whole_eq _ _ _ rfl]
  simp only [wh]
  rw [decide_eq_true (by omega : (0 : Int) ≤ b), decide_eq_true (by omega : (b : Int) ≤ (B : Int))]
  rfl
theorem is_row_ok {B M N : Nat} {r : Rw} (h : r.ok B M N) : m_is_row [r.t, .int B, .int M, .int N] = .ok (.bl true) := by
  cases r with
  | put b n =>
    obtain ⟨h1, h2⟩ := h
    simp [m_is_row, b_is_row, Rw.t, fDef, sSeq, sLift, sRet, sIf, sSet, sNew, sExp, sNx, sAsg, setT, setAll, sFrz, frz, sRaise, sApp, eB, eU, eC, eV, eW, eCh, eAnd, eOr, eNot, eIf, eTup, eLst, eNeg, eSl, oNone, oSome, aNil, aCons, eCall, Res.bind, Res.of, gI, gLen, gInt, gList, gTuple, gType, tyName, gTyIs, gIsi, gIsN', gNotN', T.isNon, T.isFn, gIx_tup, gIx_lst, gIx_fro, VS.atI_nat, atI_0, atI_1, atI_2, VS.atI_last, gEq_int, gNe_int, gAdd, gSubI, gMul, gMod, gDiv, iEn, VS.items?, enumL, eComp, wipeE, compF, pk_put, pi_put, dg_box, dg_number, dg_row, disp3, wh_box h1, wh_num h2, gAll, bls]
  | more b => simp [m_is_row, b_is_row, Rw.t, fDef, sSeq, sLift, sRet, sIf, sSet, sNew, sExp, sNx, sAsg, setT, setAll, sFrz, frz, sRaise, sApp, eB, eU, eC, eV, eW, eCh, eAnd, eOr, eNot, eIf, eTup, eLst, eNeg, eSl, oNone, oSome, aNil, aCons, eCall, Res.bind, Res.of, gI, gLen, gInt, gList, gTuple, gType, tyName, gTyIs, gIsi, gIsN', gNotN', T.isNon, T.isFn, gIx_tup, gIx_lst, gIx_fro, VS.atI_nat, atI_0, atI_1, atI_2, VS.atI_last, gEq_int, gNe_int, gAdd, gSubI, gMul, gMod, gDiv, iEn, VS.items?, enumL, eComp, wipeE, compF, pk_more, pi_more, dg_box, dg_number, dg_row, disp3, wh_box h, gAll, bls]
  | copy b o =>
    obtain ⟨h1, h2⟩ := h
    simp [m_is_row, b_is_row, Rw.t, fDef, sSeq, sLift, sRet, sIf, sSet, sNew, sExp, sNx, sAsg, setT, setAll, sFrz, frz, sRaise, sApp, eB, eU, eC, eV, eW, eCh, eAnd, eOr, eNot, eIf, eTup, eLst, eNeg, eSl, oNone, oSome, aNil, aCons, eCall, Res.bind, Res.of, gI, gLen, gInt, gList, gTuple, gType, tyName, gTyIs, gIsi, gIsN', gNotN', T.isNon, T.isFn, gIx_tup, gIx_lst, gIx_fro, VS.atI_nat, atI_0, atI_1, atI_2, VS.atI_last, gEq_int, gNe_int, gAdd, gSubI, gMul, gMod, gDiv, iEn, VS.items?, enumL, eComp, wipeE, compF, pk_copy, pi_copy, dg_box, dg_number, dg_row, disp3, wh_box h1, wh_box h2, gAll, bls]
  | tell b => simp [m_is_row, b_is_row, Rw.t, fDef, sSeq, sLift, sRet, sIf, sSet, sNew, sExp, sNx, sAsg, setT, setAll, sFrz, frz, sRaise, sApp, eB, eU, eC, eV, eW, eCh, eAnd, eOr, eNot, eIf, eTup, eLst, eNeg, eSl, oNone, oSome, aNil, aCons, eCall, Res.bind, Res.of, gI, gLen, gInt, gList, gTuple, gType, tyName, gTyIs, gIsi, gIsN', gNotN', T.isNon, T.isFn, gIx_tup, gIx_lst, gIx_fro, VS.atI_nat, atI_0, atI_1, atI_2, VS.atI_last, gEq_int, gNe_int, gAdd, gSubI, gMul, gMod, gDiv, iEn, VS.items?, enumL, eComp, wipeE, compF, pk_tell, pi_tell, dg_box, dg_number, dg_row, disp3, wh_box h, gAll, bls]
  | go r => simp [m_is_row, b_is_row, Rw.t, fDef, sSeq, sLift, sRet, sIf, sSet, sNew, sExp, sNx, sAsg, setT, setAll, sFrz, frz, sRaise, sApp, eB, eU, eC, eV, eW, eCh, eAnd, eOr, eNot, eIf, eTup, eLst, eNeg, eSl, oNone, oSome, aNil, aCons, eCall, Res.bind, Res.of, gI, gLen, gInt, gList, gTuple, gType, tyName, gTyIs, gIsi, gIsN', gNotN', T.isNon, T.isFn, gIx_tup, gIx_lst, gIx_fro, VS.atI_nat, atI_0, atI_1, atI_2, VS.atI_last, gEq_int, gNe_int, gAdd, gSubI, gMul, gMod, gDiv, iEn, VS.items?, enumL, eComp, wipeE, compF, pk_go, pi_go, dg_box, dg_number, dg_row, disp3, wh_box h, gAll, bls]
  | ask b r =>
    obtain ⟨h1, h2⟩ := h
    simp [m_is_row, b_is_row, Rw.t, fDef, sSeq, sLift, sRet, sIf, sSet, sNew, sExp, sNx, sAsg, setT, setAll, sFrz, frz, sRaise, sApp, eB, eU, eC, eV, eW, eCh, eAnd, eOr, eNot, eIf, eTup, eLst, eNeg, eSl, oNone, oSome, aNil, aCons, eCall, Res.bind, Res.of, gI, gLen, gInt, gList, gTuple, gType, tyName, gTyIs, gIsi, gIsN', gNotN', T.isNon, T.isFn, gIx_tup, gIx_lst, gIx_fro, VS.atI_nat, atI_0, atI_1, atI_2, VS.atI_last, gEq_int, gNe_int, gAdd, gSubI, gMul, gMod, gDiv, iEn, VS.items?, enumL, eComp, wipeE, compF, pk_ask, pi_ask, dg_box, dg_number, dg_row, disp3, wh_box h1, wh_box h2, gAll, bls]
  | stop => simp [m_is_row, b_is_row, Rw.t, fDef, sSeq, sLift, sRet, sIf, sSet, sNew, sExp, sNx, sAsg, setT, setAll, sFrz, frz, sRaise, sApp, eB, eU, eC, eV, eW, eCh, eAnd, eOr, eNot, eIf, eTup, eLst, eNeg, eSl, oNone, oSome, aNil, aCons, eCall, Res.bind, Res.of, gI, gLen, gInt, gList, gTuple, gType, tyName, gTyIs, gIsi, gIsN', gNotN', T.isNon, T.isFn, gIx_tup, gIx_lst, gIx_fro, VS.atI_nat, atI_0, atI_1, atI_2, VS.atI_last, gEq_int, gNe_int, gAdd, gSubI, gMul, gMod, gDiv, iEn, VS.items?, enumL, eComp, wipeE, compF, pk_stop, pi_stop, dg_box, dg_number, dg_row, disp3, gAll, bls]

theorem is_program_ok {p : Pg} (h : p.ok) : m_is_program [p.t] = .ok (.bl true) := by
  have h1 : m_whole [.int (p.B : Nat), .int 0, .int 3] = .ok (.bl true) := by
    have := wh_num (b := p.B) (B := 3) h.b3
    exact this
  have h2 : m_whole [.int (p.M : Nat), .int 1, .int 4] = .ok (.bl true) := by
    rw [whole_eq _ _ _ rfl]
    simp only [wh]
    rw [decide_eq_true (by have := h.m1; omega : (1 : Int) ≤ p.M), decide_eq_true (by have := h.m4; omega : (p.M : Int) ≤ 4)]
    rfl
  have h3 : (1 : Int) ≤ (p.rows.length : Nat) := by have := h.n1; omega
  have h4 : ((p.rows.length : Nat) : Int) ≤ 20 := by have := h.n20; omega
  have h5 : ∀ a b c d e : T, eU gAll (eComp (iIt (eV 3)) (.nm 4) [4] (eC (.bl true)) (eCall 4 m_is_row (aCons (eV 4) (aCons (eV 1) (aCons (eV 2) (aCons (eU gLen (eW 3)) aNil)))))) [.sh a, .sh (.int p.B), .sh (.int p.M), .sh (.lst (p.rows.map Rw.t)), .un] = .ok (.bl ((p.rows.map Rw.t).all fun _ => true)) := by
    intro a b c d e
    refine eAll_comp (l := p.rows.map Rw.t) (f := fun _ => true) rfl (by rw [List.length_map]; have := h.n20; omega) fun t m => ?_
    obtain ⟨r, hr, rfl⟩ := List.mem_map.mp m
    have := is_row_ok (h.rows r hr)
    simp [wipeE, fDef, sSeq, sLift, sRet, sIf, sSet, sNew, sExp, sNx, sAsg, setT, setAll, sFrz, frz, sRaise, sApp, eB, eU, eC, eV, eW, eCh, eAnd, eOr, eNot, eIf, eTup, eLst, eNeg, eSl, oNone, oSome, aNil, aCons, eCall, Res.bind, Res.of, gI, gLen, gInt, gList, gTuple, gType, tyName, gTyIs, gIsi, gIsN', gNotN', T.isNon, T.isFn, gIx_tup, gIx_lst, gIx_fro, VS.atI_nat, atI_0, atI_1, atI_2, VS.atI_last, gEq_int, gNe_int, gAdd, gSubI, gMul, gMod, gDiv, this]
  obtain ⟨r, hr⟩ : ∃ r, p.rows.getLast? = some r := by
    cases e : p.rows.getLast? with
    | some r => exact ⟨r, rfl⟩
    | none => rw [List.getLast?_eq_none_iff] at e; have := h.n1; rw [e] at this; exact absurd this (by decide)
  obtain ⟨k, l, e1, e2⟩ := rowT_kind r
  rw [h.last r hr] at e2
  have h6 : (p.rows.map Rw.t).getLast? = some (.tup (.str k :: l)) := by rw [getLast_map, hr, ← e1]; rfl
  have h7 := h5 (.tup [.int p.B, .int p.M, .lst (p.rows.map Rw.t)]) .non .non .non .non
  have h8 : ((p.rows.map Rw.t).all fun _ => true) = true := by simp
  rw [h8] at h7
  unfold m_is_program b_is_program Pg.t
  simp only [fDef, sSeq, sIf, sRet, sNx, sLift, sAsg]
  simp [fDef, sSeq, sLift, sRet, sIf, sSet, sNew, sExp, sNx, sAsg, setT, setAll, sFrz, frz, sRaise, sApp, eB, eU, eC, eV, eW, eCh, eAnd, eOr, eNot, eIf, eTup, eLst, eNeg, eSl, oNone, oSome, aNil, aCons, eCall, Res.bind, Res.of, gI, gLen, gInt, gList, gTuple, gType, tyName, gTyIs, gIsi, gIsN', gNotN', T.isNon, T.isFn, gIx_tup, gIx_lst, gIx_fro, VS.atI_nat, atI_0, atI_1, atI_2, VS.atI_last, gEq_int, gNe_int, gAdd, gSubI, gMul, gMod, gDiv, h1, h2, h3, h4, h6, e2] at h7 ⊢
  simp [h7, fDef, sSeq, sLift, sRet, sIf, sSet, sNew, sExp, sNx, sAsg, setT, setAll, sFrz, frz, sRaise, sApp, eB, eU, eC, eV, eW, eCh, eAnd, eOr, eNot, eIf, eTup, eLst, eNeg, eSl, oNone, oSome, aNil, aCons, eCall, Res.bind, Res.of, gI, gLen, gInt, gList, gTuple, gType, tyName, gTyIs, gIsi, gIsN', gNotN', T.isNon, T.isFn, gIx_tup, gIx_lst, gIx_fro, VS.atI_nat, atI_0, atI_1, atI_2, VS.atI_last, gEq_int, gNe_int, gAdd, gSubI, gMul, gMod, gDiv, h6, e2]

theorem is_numbers_ok {p : Pg} {l : List Nat} (h : Nums p l) (hp : p.B ≤ 3) : m_is_numbers [p.t, numsT l] = .ok (.bl true) := by
  obtain ⟨h1, h2⟩ := h
  have h5 := eAll_comp (fi := iIt (eV 1)) (i := 5) (is := [5]) (fe := eCall 3 m_whole (aCons (eV 5) (aCons (eC (.int 0)) (aCons (eV 3) aNil)))) (ρ := [.sh p.t, .sh (numsT l), .sh (.int p.B), .sh (.int p.M), .sh (.lst (p.rows.map Rw.t)), .un]) (l := l.map fun n => .int (n : Nat)) (f := fun _ => true) rfl (by rw [List.length_map]; omega) fun t m => by
    obtain ⟨n, hn, rfl⟩ := List.mem_map.mp m
    have := wh_num (h2 n hn)
    simp [wipeE, fDef, sSeq, sLift, sRet, sIf, sSet, sNew, sExp, sNx, sAsg, setT, setAll, sFrz, frz, sRaise, sApp, eB, eU, eC, eV, eW, eCh, eAnd, eOr, eNot, eIf, eTup, eLst, eNeg, eSl, oNone, oSome, aNil, aCons, eCall, Res.bind, Res.of, gI, gLen, gInt, gList, gTuple, gType, tyName, gTyIs, gIsi, gIsN', gNotN', T.isNon, T.isFn, gIx_tup, gIx_lst, gIx_fro, VS.atI_nat, atI_0, atI_1, atI_2, VS.atI_last, gEq_int, gNe_int, gAdd, gSubI, gMul, gMod, gDiv, this]
  have h8 : ((l.map fun n => T.int (n : Nat)).all fun _ => true) = true := by simp
  rw [h8] at h5
  have h9 : ((l.length : Nat) : Int) = p.B := by rw [h1]
  unfold m_is_numbers b_is_numbers
  unfold Pg.t numsT at h5 ⊢
  simp [fDef, sSeq, sLift, sRet, sIf, sSet, sNew, sExp, sNx, sAsg, setT, setAll, sFrz, frz, sRaise, sApp, eB, eU, eC, eV, eW, eCh, eAnd, eOr, eNot, eIf, eTup, eLst, eNeg, eSl, oNone, oSome, aNil, aCons, eCall, Res.bind, Res.of, gI, gLen, gInt, gList, gTuple, gType, tyName, gTyIs, gIsi, gIsN', gNotN', T.isNon, T.isFn, gIx_tup, gIx_lst, gIx_fro, VS.atI_nat, atI_0, atI_1, atI_2, VS.atI_last, gEq_int, gNe_int, gAdd, gSubI, gMul, gMod, gDiv, h9] at h5 ⊢
  simp [fDef, sSeq, sLift, sRet, sIf, sSet, sNew, sExp, sNx, sAsg, setT, setAll, sFrz, frz, sRaise, sApp, eB, eU, eC, eV, eW, eCh, eAnd, eOr, eNot, eIf, eTup, eLst, eNeg, eSl, oNone, oSome, aNil, aCons, eCall, Res.bind, Res.of, gI, gLen, gInt, gList, gTuple, gType, tyName, gTyIs, gIsi, gIsN', gNotN', T.isNon, T.isFn, gIx_tup, gIx_lst, gIx_fro, VS.atI_nat, atI_0, atI_1, atI_2, VS.atI_last, gEq_int, gNe_int, gAdd, gSubI, gMul, gMod, gDiv, h5, h9]
theorem is_numbers_tup {p : Pg} {l : List T} (hp : p.B ≤ 3) (hl : l.length = p.B) (h : ∀ t ∈ l, pln t = true) : m_is_numbers [p.t, .tup l] = .ok (.bl (l.all fun t => wh t 0 p.M)) := by
  have h5 := eAll_comp (fi := iIt (eV 1)) (i := 5) (is := [5]) (fe := eCall 3 m_whole (aCons (eV 5) (aCons (eC (.int 0)) (aCons (eV 3) aNil)))) (ρ := [.sh p.t, .sh (.tup l), .sh (.int p.B), .sh (.int p.M), .sh (.lst (p.rows.map Rw.t)), .un]) (l := l) (f := fun t => wh t 0 p.M) rfl (by omega) fun t m => by
    have := whole_eq t 0 p.M (h t m)
    simp [wipeE, fDef, sSeq, sLift, sRet, sIf, sSet, sNew, sExp, sNx, sAsg, setT, setAll, sFrz, frz, sRaise, sApp, eB, eU, eC, eV, eW, eCh, eAnd, eOr, eNot, eIf, eTup, eLst, eNeg, eSl, oNone, oSome, aNil, aCons, eCall, Res.bind, Res.of, gI, gLen, gInt, gList, gTuple, gType, tyName, gTyIs, gIsi, gIsN', gNotN', T.isNon, T.isFn, gIx_tup, gIx_lst, gIx_fro, VS.atI_nat, atI_0, atI_1, atI_2, VS.atI_last, gEq_int, gNe_int, gAdd, gSubI, gMul, gMod, gDiv, this]
  have h9 : ((l.length : Nat) : Int) = p.B := by rw [hl]
  unfold m_is_numbers b_is_numbers
  unfold Pg.t at h5 ⊢
  simp [fDef, sSeq, sLift, sRet, sIf, sSet, sNew, sExp, sNx, sAsg, setT, setAll, sFrz, frz, sRaise, sApp, eB, eU, eC, eV, eW, eCh, eAnd, eOr, eNot, eIf, eTup, eLst, eNeg, eSl, oNone, oSome, aNil, aCons, eCall, Res.bind, Res.of, gI, gLen, gInt, gList, gTuple, gType, tyName, gTyIs, gIsi, gIsN', gNotN', T.isNon, T.isFn, gIx_tup, gIx_lst, gIx_fro, VS.atI_nat, atI_0, atI_1, atI_2, VS.atI_last, gEq_int, gNe_int, gAdd, gSubI, gMul, gMod, gDiv, h9] at h5 ⊢
  simp [fDef, sSeq, sLift, sRet, sIf, sSet, sNew, sExp, sNx, sAsg, setT, setAll, sFrz, frz, sRaise, sApp, eB, eU, eC, eV, eW, eCh, eAnd, eOr, eNot, eIf, eTup, eLst, eNeg, eSl, oNone, oSome, aNil, aCons, eCall, Res.bind, Res.of, gI, gLen, gInt, gList, gTuple, gType, tyName, gTyIs, gIsi, gIsN', gNotN', T.isNon, T.isFn, gIx_tup, gIx_lst, gIx_fro, VS.atI_nat, atI_0, atI_1, atI_2, VS.atI_last, gEq_int, gNe_int, gAdd, gSubI, gMul, gMod, gDiv, h5, h9]
theorem is_numbers_len {p : Pg} {l : List T} (hl : l.length ≠ p.B) : m_is_numbers [p.t, .tup l] = .ok (.bl false) := by
  have h9 : ¬ ((l.length : Nat) : Int) = p.B := by omega
  unfold m_is_numbers b_is_numbers Pg.t
  simp [fDef, sSeq, sLift, sRet, sIf, sSet, sNew, sExp, sNx, sAsg, setT, setAll, sFrz, frz, sRaise, sApp, eB, eU, eC, eV, eW, eCh, eAnd, eOr, eNot, eIf, eTup, eLst, eNeg, eSl, oNone, oSome, aNil, aCons, eCall, Res.bind, Res.of, gI, gLen, gInt, gList, gTuple, gType, tyName, gTyIs, gIsi, gIsN', gNotN', T.isNon, T.isFn, gIx_tup, gIx_lst, gIx_fro, VS.atI_nat, atI_0, atI_1, atI_2, VS.atI_last, gEq_int, gNe_int, gAdd, gSubI, gMul, gMod, gDiv, h9]
theorem is_numbers_not {p : Pg} {t : T} (ht : pln t = true) (hn : ∀ l, t ≠ .tup l) : m_is_numbers [p.t, t] = .ok (.bl false) := by
  unfold m_is_numbers b_is_numbers Pg.t
  cases t <;> first | (cases ht; done) | (exact absurd rfl (hn _)) | simp [fDef, sSeq, sLift, sRet, sIf, sSet, sNew, sExp, sNx, sAsg, setT, setAll, sFrz, frz, sRaise, sApp, eB, eU, eC, eV, eW, eCh, eAnd, eOr, eNot, eIf, eTup, eLst, eNeg, eSl, oNone, oSome, aNil, aCons, eCall, Res.bind, Res.of, gI, gLen, gInt, gList, gTuple, gType, tyName, gTyIs, gIsi, gIsN', gNotN', T.isNon, T.isFn, gIx_tup, gIx_lst, gIx_fro, VS.atI_nat, atI_0, atI_1, atI_2, VS.atI_last, gEq_int, gNe_int, gAdd, gSubI, gMul, gMod, gDiv]
theorem is_state_pair {p : Pg} {a b : T} {c : Bool} (ha : pln a = true) (hb : m_is_numbers [p.t, b] = .ok (.bl c)) : m_is_state [p.t, .tup [a, b]] = .ok (.bl (wh a 0 ((p.rows.length : Nat) - 1) && c)) := by
  have h1 := whole_eq a 0 ((p.rows.length : Nat) - 1) ha
  unfold m_is_state b_is_state
  unfold Pg.t at hb ⊢
  cases e : wh a 0 ((p.rows.length : Nat) - 1) <;> rw [e] at h1 <;> simp [fDef, sSeq, sLift, sRet, sIf, sSet, sNew, sExp, sNx, sAsg, setT, setAll, sFrz, frz, sRaise, sApp, eB, eU, eC, eV, eW, eCh, eAnd, eOr, eNot, eIf, eTup, eLst, eNeg, eSl, oNone, oSome, aNil, aCons, eCall, Res.bind, Res.of, gI, gLen, gInt, gList, gTuple, gType, tyName, gTyIs, gIsi, gIsN', gNotN', T.isNon, T.isFn, gIx_tup, gIx_lst, gIx_fro, VS.atI_nat, atI_0, atI_1, atI_2, VS.atI_last, gEq_int, gNe_int, gAdd, gSubI, gMul, gMod, gDiv, h1, hb]
theorem is_state_row {p : Pg} {a b : T} (ha : pln a = true) (h : wh a 0 ((p.rows.length : Nat) - 1) = false) : m_is_state [p.t, .tup [a, b]] = .ok (.bl false) := by
  have h1 := whole_eq a 0 ((p.rows.length : Nat) - 1) ha
  rw [h] at h1
  unfold m_is_state b_is_state Pg.t
  simp [fDef, sSeq, sLift, sRet, sIf, sSet, sNew, sExp, sNx, sAsg, setT, setAll, sFrz, frz, sRaise, sApp, eB, eU, eC, eV, eW, eCh, eAnd, eOr, eNot, eIf, eTup, eLst, eNeg, eSl, oNone, oSome, aNil, aCons, eCall, Res.bind, Res.of, gI, gLen, gInt, gList, gTuple, gType, tyName, gTyIs, gIsi, gIsN', gNotN', T.isNon, T.isFn, gIx_tup, gIx_lst, gIx_fro, VS.atI_nat, atI_0, atI_1, atI_2, VS.atI_last, gEq_int, gNe_int, gAdd, gSubI, gMul, gMod, gDiv, h1]
theorem is_state_len {p : Pg} {l : List T} (hl : l.length ≠ 2) : m_is_state [p.t, .tup l] = .ok (.bl false) := by
  have h9 : ¬ ((l.length : Nat) : Int) = 2 := by omega
  unfold m_is_state b_is_state Pg.t
  simp [fDef, sSeq, sLift, sRet, sIf, sSet, sNew, sExp, sNx, sAsg, setT, setAll, sFrz, frz, sRaise, sApp, eB, eU, eC, eV, eW, eCh, eAnd, eOr, eNot, eIf, eTup, eLst, eNeg, eSl, oNone, oSome, aNil, aCons, eCall, Res.bind, Res.of, gI, gLen, gInt, gList, gTuple, gType, tyName, gTyIs, gIsi, gIsN', gNotN', T.isNon, T.isFn, gIx_tup, gIx_lst, gIx_fro, VS.atI_nat, atI_0, atI_1, atI_2, VS.atI_last, gEq_int, gNe_int, gAdd, gSubI, gMul, gMod, gDiv, h9]
theorem is_state_not {p : Pg} {t : T} (ht : pln t = true) (hn : ∀ l, t ≠ .tup l) : m_is_state [p.t, t] = .ok (.bl false) := by
  unfold m_is_state b_is_state Pg.t
  cases t <;> first | (cases ht; done) | (exact absurd rfl (hn _)) | simp [fDef, sSeq, sLift, sRet, sIf, sSet, sNew, sExp, sNx, sAsg, setT, setAll, sFrz, frz, sRaise, sApp, eB, eU, eC, eV, eW, eCh, eAnd, eOr, eNot, eIf, eTup, eLst, eNeg, eSl, oNone, oSome, aNil, aCons, eCall, Res.bind, Res.of, gI, gLen, gInt, gList, gTuple, gType, tyName, gTyIs, gIsi, gIsN', gNotN', T.isNon, T.isFn, gIx_tup, gIx_lst, gIx_fro, VS.atI_nat, atI_0, atI_1, atI_2, VS.atI_last, gEq_int, gNe_int, gAdd, gSubI, gMul, gMod, gDiv]
theorem need_program_ok {p : Pg} (h : p.ok) : m_need_program [p.t] = .ok p.t := by
  have h1 := is_program_ok h
  unfold m_need_program b_need_program
  simp [fDef, sSeq, sLift, sRet, sIf, sSet, sNew, sExp, sNx, sAsg, setT, setAll, sFrz, frz, sRaise, sApp, eB, eU, eC, eV, eW, eCh, eAnd, eOr, eNot, eIf, eTup, eLst, eNeg, eSl, oNone, oSome, aNil, aCons, eCall, Res.bind, Res.of, gI, gLen, gInt, gList, gTuple, gType, tyName, gTyIs, gIsi, gIsN', gNotN', T.isNon, T.isFn, gIx_tup, gIx_lst, gIx_fro, VS.atI_nat, atI_0, atI_1, atI_2, VS.atI_last, gEq_int, gNe_int, gAdd, gSubI, gMul, gMod, gDiv, h1]
theorem need_state_ok {p : Pg} (h : p.ok) {t : T} (ht : m_is_state [p.t, t] = .ok (.bl true)) : m_need_state [p.t, t] = .ok t := by
  have h1 := need_program_ok h
  unfold m_need_state b_need_state
  simp [fDef, sSeq, sLift, sRet, sIf, sSet, sNew, sExp, sNx, sAsg, setT, setAll, sFrz, frz, sRaise, sApp, eB, eU, eC, eV, eW, eCh, eAnd, eOr, eNot, eIf, eTup, eLst, eNeg, eSl, oNone, oSome, aNil, aCons, eCall, Res.bind, Res.of, gI, gLen, gInt, gList, gTuple, gType, tyName, gTyIs, gIsi, gIsN', gNotN', T.isNon, T.isFn, gIx_tup, gIx_lst, gIx_fro, VS.atI_nat, atI_0, atI_1, atI_2, VS.atI_last, gEq_int, gNe_int, gAdd, gSubI, gMul, gMod, gDiv, h1, ht]
theorem need_state_no {p : Pg} (h : p.ok) {t : T} (ht : m_is_state [p.t, t] = .ok (.bl false)) : m_need_state [p.t, t] = .ex "BadState" [] := by
  have h1 := need_program_ok h
  unfold m_need_state b_need_state
  simp [fDef, sSeq, sLift, sRet, sIf, sSet, sNew, sExp, sNx, sAsg, setT, setAll, sFrz, frz, sRaise, sApp, eB, eU, eC, eV, eW, eCh, eAnd, eOr, eNot, eIf, eTup, eLst, eNeg, eSl, oNone, oSome, aNil, aCons, eCall, Res.bind, Res.of, gI, gLen, gInt, gList, gTuple, gType, tyName, gTyIs, gIsi, gIsN', gNotN', T.isNon, T.isFn, gIx_tup, gIx_lst, gIx_fro, VS.atI_nat, atI_0, atI_1, atI_2, VS.atI_last, gEq_int, gNe_int, gAdd, gSubI, gMul, gMod, gDiv, h1, ht]
def stT (at_ : Nat) (l : List Nat) : T := .tup [.int (at_ : Nat), numsT l]
theorem is_state_ok {p : Pg} {i : Nat} {l : List Nat} (h : p.ok) (hi : i < p.rows.length) (hl : Nums p l) : m_is_state [p.t, stT i l] = .ok (.bl true) := by
  have := is_state_pair (p := p) (a := .int (i : Nat)) (b := numsT l) rfl (is_numbers_ok hl h.b3)
  unfold stT
  rw [this]
  simp only [wh]
  rw [decide_eq_true (by omega : (0 : Int) ≤ i), decide_eq_true (by omega : (i : Int) ≤ (p.rows.length : Nat) - 1)]
  rfl
/-! ### a step -/
def nx (p : Pg) (i : Nat) (l : List Nat) : Rw → Option (Nat × List Nat)
  | .put b n => some (i + 1, l.set b n)
  | .more b => some (i + 1, l.set b (if (l[b]?).getD 0 = p.M then 0 else (l[b]?).getD 0 + 1))
  | .copy b o => some (i + 1, l.set b ((l[o]?).getD 0))
  | .tell b => some (i + 1, l)
  | .go r => some (r, l)
  | .ask b r => some (if (l[b]?).getD 0 = 0 then r else i + 1, l)
  | .stop => none
def tl (l : List Nat) : Rw → Option Nat
  | .tell b => some ((l[b]?).getD 0)
  | _ => none
def oS : Option (Nat × List Nat) → T
  | none => .non
  | some (i, l) => stT i l
def stepT (p : Pg) (i : Nat) (l : List Nat) (r : Rw) : T := .tup [oS (nx p i l r), oN (tl l r)]
theorem numsT_at {l : List Nat} {b : Nat} (h : b < l.length) : (l.map fun n => T.int (n : Nat))[b]? = some (.int ((l[b]?).getD 0 : Nat)) := by
  rw [List.getElem?_map, List.getElem?_eq_getElem h]
  rfl
theorem cutT_lo {α : Type} (l : List α) (b : Nat) : cutT l none (some (b : Int)) = l.take b := by
  unfold cutT HT.sIx
  simp only [List.drop_zero, Nat.sub_zero]
  rw [if_neg (by omega), Int.toNat_natCast]
  by_cases h : b ≤ l.length
  · rw [Nat.min_eq_left h]
  · rw [Nat.min_eq_right (by omega), List.take_of_length_le (Nat.le_refl _), List.take_of_length_le (by omega)]
theorem cutT_hi {α : Type} (l : List α) (b : Nat) : cutT l (some ((b : Int) + 1)) none = l.drop (b + 1) := by
  unfold cutT HT.sIx
  simp only []
  rw [if_neg (by omega)]
  have e : ((b : Int) + 1).toNat = b + 1 := by omega
  rw [e]
  by_cases h : b + 1 ≤ l.length
  · rw [Nat.min_eq_left h, List.take_of_length_le (by rw [List.length_drop]; exact Nat.le_refl _)]
  · rw [Nat.min_eq_right (by omega), Nat.sub_self, List.take_zero, List.drop_eq_nil_of_le (by omega)]
theorem take_set_drop {α : Type} {l : List α} {b : Nat} (x : α) (h : b < l.length) : l.take b ++ [x] ++ l.drop (b + 1) = l.set b x := by
  induction l generalizing b with
  | nil => cases h
  | cons a r ih => cases b with
    | zero => rfl
    | succ k =>
      have := ih (b := k) (by simpa using h)
      simp only [List.take_succ_cons, List.cons_append, List.drop_succ_cons, List.set_cons_succ]
      rw [← this]
theorem replaced_ok {l : List Nat} {b n : Nat} (h : b < l.length) (h3 : l.length ≤ 3) : m_replaced [numsT l, .int (b : Nat), .int (n : Nat)] = .ok (numsT (l.set b n)) := by
  have h1 := cutT_lo (l.map fun n => T.int (n : Nat)) b
  have h2 := cutT_hi (l.map fun n => T.int (n : Nat)) b
  have h4 := take_set_drop (l := l.map fun n => T.int (n : Nat)) (b := b) (.int (n : Nat)) (by rw [List.length_map]; exact h)
  have h5 : (l.set b n).map (fun n => T.int (n : Nat)) = (l.map fun n => T.int (n : Nat)).set b (.int (n : Nat)) := by rw [List.map_set]
  unfold m_replaced b_replaced numsT
  rw [h5, ← h4]
  have e1 : min b l.length + 1 ≤ 100000 := by omega
  have e2 : min b l.length + 1 + (l.length - (b + 1)) ≤ 100000 := by omega
  simp [fDef, sSeq, sLift, sRet, sIf, sSet, sNew, sExp, sNx, sAsg, setT, setAll, sFrz, frz, sRaise, sApp, eB, eU, eC, eV, eW, eCh, eAnd, eOr, eNot, eIf, eTup, eLst, eNeg, eSl, oNone, oSome, aNil, aCons, eCall, Res.bind, Res.of, gI, gLen, gInt, gList, gTuple, gType, tyName, gTyIs, gIsi, gIsN', gNotN', T.isNon, T.isFn, gIx_tup, gIx_lst, gIx_fro, VS.atI_nat, atI_0, atI_1, atI_2, VS.atI_last, gEq_int, gNe_int, gAdd, gSubI, gMul, gMod, gDiv, gSl, h1, h2, e1, e2]
end K11

namespace K11
open PySem PySem.Spec PyProof.Rows L2 Evl VS
theorem written_put {M b n : Nat} {l : List Nat} : m_written [.int (M : Nat), .tup [.str "put", .int (b : Nat), .int (n : Nat)], numsT l] = .ok (.int (n : Nat)) := by
  unfold m_written b_written
  simp [fDef, sSeq, sLift, sRet, sIf, sSet, sNew, sExp, sNx, sAsg, setT, setAll, sFrz, frz, sRaise, sApp, eB, eU, eC, eV, eW, eCh, eAnd, eOr, eNot, eIf, eTup, eLst, eNeg, eSl, oNone, oSome, aNil, aCons, eCall, Res.bind, Res.of, gI, gLen, gInt, gList, gTuple, gType, tyName, gTyIs, gIsi, gIsN', gNotN', T.isNon, T.isFn, gIx_tup, gIx_lst, gIx_fro, VS.atI_nat, atI_0, atI_1, atI_2, VS.atI_last, gEq_int, gNe_int, gAdd, gSubI, gMul, gMod, gDiv, q_put_put, q_put_more, q_put_copy, q_put_tell, q_put_go, q_put_ask, q_put_stop, q_more_put, q_more_more, q_more_copy, q_more_tell, q_more_go, q_more_ask, q_more_stop, q_copy_put, q_copy_more, q_copy_copy, q_copy_tell, q_copy_go, q_copy_ask, q_copy_stop, q_tell_put, q_tell_more, q_tell_copy, q_tell_tell, q_tell_go, q_tell_ask, q_tell_stop, q_go_put, q_go_more, q_go_copy, q_go_tell, q_go_go, q_go_ask, q_go_stop, q_ask_put, q_ask_more, q_ask_copy, q_ask_tell, q_ask_go, q_ask_ask, q_ask_stop, q_stop_put, q_stop_more, q_stop_copy, q_stop_tell, q_stop_go, q_stop_ask, q_stop_stop]
theorem written_copy {M b o : Nat} {l : List Nat} (h : o < l.length) : m_written [.int (M : Nat), .tup [.str "copy", .int (b : Nat), .int (o : Nat)], numsT l] = .ok (.int ((l[o]?).getD 0 : Nat)) := by
  have h1 := numsT_at h
  unfold m_written b_written numsT
  simp only [List.getElem?_map] at h1
  simp [fDef, sSeq, sLift, sRet, sIf, sSet, sNew, sExp, sNx, sAsg, setT, setAll, sFrz, frz, sRaise, sApp, eB, eU, eC, eV, eW, eCh, eAnd, eOr, eNot, eIf, eTup, eLst, eNeg, eSl, oNone, oSome, aNil, aCons, eCall, Res.bind, Res.of, gI, gLen, gInt, gList, gTuple, gType, tyName, gTyIs, gIsi, gIsN', gNotN', T.isNon, T.isFn, gIx_tup, gIx_lst, gIx_fro, VS.atI_nat, atI_0, atI_1, atI_2, VS.atI_last, gEq_int, gNe_int, gAdd, gSubI, gMul, gMod, gDiv, q_put_put, q_put_more, q_put_copy, q_put_tell, q_put_go, q_put_ask, q_put_stop, q_more_put, q_more_more, q_more_copy, q_more_tell, q_more_go, q_more_ask, q_more_stop, q_copy_put, q_copy_more, q_copy_copy, q_copy_tell, q_copy_go, q_copy_ask, q_copy_stop, q_tell_put, q_tell_more, q_tell_copy, q_tell_tell, q_tell_go, q_tell_ask, q_tell_stop, q_go_put, q_go_more, q_go_copy, q_go_tell, q_go_go, q_go_ask, q_go_stop, q_ask_put, q_ask_more, q_ask_copy, q_ask_tell, q_ask_go, q_ask_ask, q_ask_stop, q_stop_put, q_stop_more, q_stop_copy, q_stop_tell, q_stop_go, q_stop_ask, q_stop_stop, h1]
theorem written_more {M b : Nat} {l : List Nat} (h : b < l.length) : m_written [.int (M : Nat), .tup [.str "more", .int (b : Nat)], numsT l] = .ok (.int ((if (l[b]?).getD 0 = M then 0 else (l[b]?).getD 0 + 1 : Nat) : Nat)) := by
  have h1 := numsT_at h
  unfold m_written b_written numsT
  simp only [List.getElem?_map] at h1
  by_cases e : (l[b]?).getD 0 = M
  · have e' : (((l[b]?).getD 0 : Nat) : Int) = M := by rw [e]
    simp [fDef, sSeq, sLift, sRet, sIf, sSet, sNew, sExp, sNx, sAsg, setT, setAll, sFrz, frz, sRaise, sApp, eB, eU, eC, eV, eW, eCh, eAnd, eOr, eNot, eIf, eTup, eLst, eNeg, eSl, oNone, oSome, aNil, aCons, eCall, Res.bind, Res.of, gI, gLen, gInt, gList, gTuple, gType, tyName, gTyIs, gIsi, gIsN', gNotN', T.isNon, T.isFn, gIx_tup, gIx_lst, gIx_fro, VS.atI_nat, atI_0, atI_1, atI_2, VS.atI_last, gEq_int, gNe_int, gAdd, gSubI, gMul, gMod, gDiv, q_put_put, q_put_more, q_put_copy, q_put_tell, q_put_go, q_put_ask, q_put_stop, q_more_put, q_more_more, q_more_copy, q_more_tell, q_more_go, q_more_ask, q_more_stop, q_copy_put, q_copy_more, q_copy_copy, q_copy_tell, q_copy_go, q_copy_ask, q_copy_stop, q_tell_put, q_tell_more, q_tell_copy, q_tell_tell, q_tell_go, q_tell_ask, q_tell_stop, q_go_put, q_go_more, q_go_copy, q_go_tell, q_go_go, q_go_ask, q_go_stop, q_ask_put, q_ask_more, q_ask_copy, q_ask_tell, q_ask_go, q_ask_ask, q_ask_stop, q_stop_put, q_stop_more, q_stop_copy, q_stop_tell, q_stop_go, q_stop_ask, q_stop_stop, h1, e, e']
  · have e' : ¬ (((l[b]?).getD 0 : Nat) : Int) = M := by omega
    simp [fDef, sSeq, sLift, sRet, sIf, sSet, sNew, sExp, sNx, sAsg, setT, setAll, sFrz, frz, sRaise, sApp, eB, eU, eC, eV, eW, eCh, eAnd, eOr, eNot, eIf, eTup, eLst, eNeg, eSl, oNone, oSome, aNil, aCons, eCall, Res.bind, Res.of, gI, gLen, gInt, gList, gTuple, gType, tyName, gTyIs, gIsi, gIsN', gNotN', T.isNon, T.isFn, gIx_tup, gIx_lst, gIx_fro, VS.atI_nat, atI_0, atI_1, atI_2, VS.atI_last, gEq_int, gNe_int, gAdd, gSubI, gMul, gMod, gDiv, q_put_put, q_put_more, q_put_copy, q_put_tell, q_put_go, q_put_ask, q_put_stop, q_more_put, q_more_more, q_more_copy, q_more_tell, q_more_go, q_more_ask, q_more_stop, q_copy_put, q_copy_more, q_copy_copy, q_copy_tell, q_copy_go, q_copy_ask, q_copy_stop, q_tell_put, q_tell_more, q_tell_copy, q_tell_tell, q_tell_go, q_tell_ask, q_tell_stop, q_go_put, q_go_more, q_go_copy, q_go_tell, q_go_go, q_go_ask, q_go_stop, q_ask_put, q_ask_more, q_ask_copy, q_ask_tell, q_ask_go, q_ask_ask, q_ask_stop, q_stop_put, q_stop_more, q_stop_copy, q_stop_tell, q_stop_go, q_stop_ask, q_stop_stop, h1, e, e']
theorem rows_at {p : Pg} {i : Nat} {r : Rw} (h : p.rows[i]? = some r) : (p.rows.map Rw.t)[i]? = some r.t := by rw [List.getElem?_map, h]; rfl
theorem stepped_ok {p : Pg} {i : Nat} {l : List Nat} {r : Rw} (h : p.ok) (hi : p.rows[i]? = some r) (hl : Nums p l) : m_stepped [p.t, stT i l] = .ok (stepT p i l r) := by
  have hr := rows_at hi
  have hk := h.rows r (List.mem_of_getElem? hi)
  have hB := h.b3
  have hn := hl.1
  simp only [List.getElem?_map] at hr
  unfold m_stepped b_stepped Pg.t stT stepT
  cases r with
  | put b n =>
    have h1 := replaced_ok (l := l) (b := b) (n := n) (by have := hk.1; omega) (by omega)
    have h2 := written_put (M := p.M) (b := b) (n := n) (l := l)
    simp only [Rw.t] at hr
    simp [fDef, sSeq, sLift, sRet, sIf, sSet, sNew, sExp, sNx, sAsg, setT, setAll, sFrz, frz, sRaise, sApp, eB, eU, eC, eV, eW, eCh, eAnd, eOr, eNot, eIf, eTup, eLst, eNeg, eSl, oNone, oSome, aNil, aCons, eCall, Res.bind, Res.of, gI, gLen, gInt, gList, gTuple, gType, tyName, gTyIs, gIsi, gIsN', gNotN', T.isNon, T.isFn, gIx_tup, gIx_lst, gIx_fro, VS.atI_nat, atI_0, atI_1, atI_2, VS.atI_last, gEq_int, gNe_int, gAdd, gSubI, gMul, gMod, gDiv, q_put_put, q_put_more, q_put_copy, q_put_tell, q_put_go, q_put_ask, q_put_stop, q_more_put, q_more_more, q_more_copy, q_more_tell, q_more_go, q_more_ask, q_more_stop, q_copy_put, q_copy_more, q_copy_copy, q_copy_tell, q_copy_go, q_copy_ask, q_copy_stop, q_tell_put, q_tell_more, q_tell_copy, q_tell_tell, q_tell_go, q_tell_ask, q_tell_stop, q_go_put, q_go_more, q_go_copy, q_go_tell, q_go_go, q_go_ask, q_go_stop, q_ask_put, q_ask_more, q_ask_copy, q_ask_tell, q_ask_go, q_ask_ask, q_ask_stop, q_stop_put, q_stop_more, q_stop_copy, q_stop_tell, q_stop_go, q_stop_ask, q_stop_stop, hr, h1, h2, nx, tl, oS, oN, stT]
  | more b =>
    have hb : b < l.length := by have : b < p.B := hk; omega
    have h2 := written_more (M := p.M) (b := b) (l := l) hb
    have h1 := replaced_ok (l := l) (b := b) (n := if (l[b]?).getD 0 = p.M then 0 else (l[b]?).getD 0 + 1) hb (by omega)
    simp only [Rw.t] at hr
    simp only [nx, tl, oS, oN, stT]
    generalize (if (l[b]?).getD 0 = p.M then 0 else (l[b]?).getD 0 + 1) = x at h1 h2 ⊢
    simp [fDef, sSeq, sLift, sRet, sIf, sSet, sNew, sExp, sNx, sAsg, setT, setAll, sFrz, frz, sRaise, sApp, eB, eU, eC, eV, eW, eCh, eAnd, eOr, eNot, eIf, eTup, eLst, eNeg, eSl, oNone, oSome, aNil, aCons, eCall, Res.bind, Res.of, gI, gLen, gInt, gList, gTuple, gType, tyName, gTyIs, gIsi, gIsN', gNotN', T.isNon, T.isFn, gIx_tup, gIx_lst, gIx_fro, VS.atI_nat, atI_0, atI_1, atI_2, VS.atI_last, gEq_int, gNe_int, gAdd, gSubI, gMul, gMod, gDiv, q_put_put, q_put_more, q_put_copy, q_put_tell, q_put_go, q_put_ask, q_put_stop, q_more_put, q_more_more, q_more_copy, q_more_tell, q_more_go, q_more_ask, q_more_stop, q_copy_put, q_copy_more, q_copy_copy, q_copy_tell, q_copy_go, q_copy_ask, q_copy_stop, q_tell_put, q_tell_more, q_tell_copy, q_tell_tell, q_tell_go, q_tell_ask, q_tell_stop, q_go_put, q_go_more, q_go_copy, q_go_tell, q_go_go, q_go_ask, q_go_stop, q_ask_put, q_ask_more, q_ask_copy, q_ask_tell, q_ask_go, q_ask_ask, q_ask_stop, q_stop_put, q_stop_more, q_stop_copy, q_stop_tell, q_stop_go, q_stop_ask, q_stop_stop, hr, h1, h2]
  | copy b o =>
    have hb : b < l.length := by have := hk.1; omega
    have ho : o < l.length := by have := hk.2; omega
    have h2 := written_copy (M := p.M) (b := b) (l := l) ho
    have h1 := replaced_ok (l := l) (b := b) (n := (l[o]?).getD 0) hb (by omega)
    simp only [Rw.t] at hr
    simp [fDef, sSeq, sLift, sRet, sIf, sSet, sNew, sExp, sNx, sAsg, setT, setAll, sFrz, frz, sRaise, sApp, eB, eU, eC, eV, eW, eCh, eAnd, eOr, eNot, eIf, eTup, eLst, eNeg, eSl, oNone, oSome, aNil, aCons, eCall, Res.bind, Res.of, gI, gLen, gInt, gList, gTuple, gType, tyName, gTyIs, gIsi, gIsN', gNotN', T.isNon, T.isFn, gIx_tup, gIx_lst, gIx_fro, VS.atI_nat, atI_0, atI_1, atI_2, VS.atI_last, gEq_int, gNe_int, gAdd, gSubI, gMul, gMod, gDiv, q_put_put, q_put_more, q_put_copy, q_put_tell, q_put_go, q_put_ask, q_put_stop, q_more_put, q_more_more, q_more_copy, q_more_tell, q_more_go, q_more_ask, q_more_stop, q_copy_put, q_copy_more, q_copy_copy, q_copy_tell, q_copy_go, q_copy_ask, q_copy_stop, q_tell_put, q_tell_more, q_tell_copy, q_tell_tell, q_tell_go, q_tell_ask, q_tell_stop, q_go_put, q_go_more, q_go_copy, q_go_tell, q_go_go, q_go_ask, q_go_stop, q_ask_put, q_ask_more, q_ask_copy, q_ask_tell, q_ask_go, q_ask_ask, q_ask_stop, q_stop_put, q_stop_more, q_stop_copy, q_stop_tell, q_stop_go, q_stop_ask, q_stop_stop, hr, h1, h2, nx, tl, oS, oN, stT]
  | tell b =>
    have hb : b < l.length := by have : b < p.B := hk; omega
    have h1 := numsT_at hb
    simp only [Rw.t, List.getElem?_map] at hr h1
    unfold numsT
    simp [fDef, sSeq, sLift, sRet, sIf, sSet, sNew, sExp, sNx, sAsg, setT, setAll, sFrz, frz, sRaise, sApp, eB, eU, eC, eV, eW, eCh, eAnd, eOr, eNot, eIf, eTup, eLst, eNeg, eSl, oNone, oSome, aNil, aCons, eCall, Res.bind, Res.of, gI, gLen, gInt, gList, gTuple, gType, tyName, gTyIs, gIsi, gIsN', gNotN', T.isNon, T.isFn, gIx_tup, gIx_lst, gIx_fro, VS.atI_nat, atI_0, atI_1, atI_2, VS.atI_last, gEq_int, gNe_int, gAdd, gSubI, gMul, gMod, gDiv, q_put_put, q_put_more, q_put_copy, q_put_tell, q_put_go, q_put_ask, q_put_stop, q_more_put, q_more_more, q_more_copy, q_more_tell, q_more_go, q_more_ask, q_more_stop, q_copy_put, q_copy_more, q_copy_copy, q_copy_tell, q_copy_go, q_copy_ask, q_copy_stop, q_tell_put, q_tell_more, q_tell_copy, q_tell_tell, q_tell_go, q_tell_ask, q_tell_stop, q_go_put, q_go_more, q_go_copy, q_go_tell, q_go_go, q_go_ask, q_go_stop, q_ask_put, q_ask_more, q_ask_copy, q_ask_tell, q_ask_go, q_ask_ask, q_ask_stop, q_stop_put, q_stop_more, q_stop_copy, q_stop_tell, q_stop_go, q_stop_ask, q_stop_stop, hr, h1, nx, tl, oS, oN, stT, numsT]
  | go r =>
    simp only [Rw.t] at hr
    simp [fDef, sSeq, sLift, sRet, sIf, sSet, sNew, sExp, sNx, sAsg, setT, setAll, sFrz, frz, sRaise, sApp, eB, eU, eC, eV, eW, eCh, eAnd, eOr, eNot, eIf, eTup, eLst, eNeg, eSl, oNone, oSome, aNil, aCons, eCall, Res.bind, Res.of, gI, gLen, gInt, gList, gTuple, gType, tyName, gTyIs, gIsi, gIsN', gNotN', T.isNon, T.isFn, gIx_tup, gIx_lst, gIx_fro, VS.atI_nat, atI_0, atI_1, atI_2, VS.atI_last, gEq_int, gNe_int, gAdd, gSubI, gMul, gMod, gDiv, q_put_put, q_put_more, q_put_copy, q_put_tell, q_put_go, q_put_ask, q_put_stop, q_more_put, q_more_more, q_more_copy, q_more_tell, q_more_go, q_more_ask, q_more_stop, q_copy_put, q_copy_more, q_copy_copy, q_copy_tell, q_copy_go, q_copy_ask, q_copy_stop, q_tell_put, q_tell_more, q_tell_copy, q_tell_tell, q_tell_go, q_tell_ask, q_tell_stop, q_go_put, q_go_more, q_go_copy, q_go_tell, q_go_go, q_go_ask, q_go_stop, q_ask_put, q_ask_more, q_ask_copy, q_ask_tell, q_ask_go, q_ask_ask, q_ask_stop, q_stop_put, q_stop_more, q_stop_copy, q_stop_tell, q_stop_go, q_stop_ask, q_stop_stop, hr, nx, tl, oS, oN, stT]
  | ask b r =>
    have hb : b < l.length := by have := hk.1; omega
    have h1 := numsT_at hb
    simp only [Rw.t, List.getElem?_map] at hr h1
    unfold numsT
    by_cases e : (l[b]?).getD 0 = 0
    · simp [fDef, sSeq, sLift, sRet, sIf, sSet, sNew, sExp, sNx, sAsg, setT, setAll, sFrz, frz, sRaise, sApp, eB, eU, eC, eV, eW, eCh, eAnd, eOr, eNot, eIf, eTup, eLst, eNeg, eSl, oNone, oSome, aNil, aCons, eCall, Res.bind, Res.of, gI, gLen, gInt, gList, gTuple, gType, tyName, gTyIs, gIsi, gIsN', gNotN', T.isNon, T.isFn, gIx_tup, gIx_lst, gIx_fro, VS.atI_nat, atI_0, atI_1, atI_2, VS.atI_last, gEq_int, gNe_int, gAdd, gSubI, gMul, gMod, gDiv, q_put_put, q_put_more, q_put_copy, q_put_tell, q_put_go, q_put_ask, q_put_stop, q_more_put, q_more_more, q_more_copy, q_more_tell, q_more_go, q_more_ask, q_more_stop, q_copy_put, q_copy_more, q_copy_copy, q_copy_tell, q_copy_go, q_copy_ask, q_copy_stop, q_tell_put, q_tell_more, q_tell_copy, q_tell_tell, q_tell_go, q_tell_ask, q_tell_stop, q_go_put, q_go_more, q_go_copy, q_go_tell, q_go_go, q_go_ask, q_go_stop, q_ask_put, q_ask_more, q_ask_copy, q_ask_tell, q_ask_go, q_ask_ask, q_ask_stop, q_stop_put, q_stop_more, q_stop_copy, q_stop_tell, q_stop_go, q_stop_ask, q_stop_stop, hr, h1, nx, tl, oS, oN, stT, numsT, e]
    · simp [fDef, sSeq, sLift, sRet, sIf, sSet, sNew, sExp, sNx, sAsg, setT, setAll, sFrz, frz, sRaise, sApp, eB, eU, eC, eV, eW, eCh, eAnd, eOr, eNot, eIf, eTup, eLst, eNeg, eSl, oNone, oSome, aNil, aCons, eCall, Res.bind, Res.of, gI, gLen, gInt, gList, gTuple, gType, tyName, gTyIs, gIsi, gIsN', gNotN', T.isNon, T.isFn, gIx_tup, gIx_lst, gIx_fro, VS.atI_nat, atI_0, atI_1, atI_2, VS.atI_last, gEq_int, gNe_int, gAdd, gSubI, gMul, gMod, gDiv, q_put_put, q_put_more, q_put_copy, q_put_tell, q_put_go, q_put_ask, q_put_stop, q_more_put, q_more_more, q_more_copy, q_more_tell, q_more_go, q_more_ask, q_more_stop, q_copy_put, q_copy_more, q_copy_copy, q_copy_tell, q_copy_go, q_copy_ask, q_copy_stop, q_tell_put, q_tell_more, q_tell_copy, q_tell_tell, q_tell_go, q_tell_ask, q_tell_stop, q_go_put, q_go_more, q_go_copy, q_go_tell, q_go_go, q_go_ask, q_go_stop, q_ask_put, q_ask_more, q_ask_copy, q_ask_tell, q_ask_go, q_ask_ask, q_ask_stop, q_stop_put, q_stop_more, q_stop_copy, q_stop_tell, q_stop_go, q_stop_ask, q_stop_stop, hr, h1, nx, tl, oS, oN, stT, numsT, e]
  | stop =>
    simp only [Rw.t] at hr
    simp [fDef, sSeq, sLift, sRet, sIf, sSet, sNew, sExp, sNx, sAsg, setT, setAll, sFrz, frz, sRaise, sApp, eB, eU, eC, eV, eW, eCh, eAnd, eOr, eNot, eIf, eTup, eLst, eNeg, eSl, oNone, oSome, aNil, aCons, eCall, Res.bind, Res.of, gI, gLen, gInt, gList, gTuple, gType, tyName, gTyIs, gIsi, gIsN', gNotN', T.isNon, T.isFn, gIx_tup, gIx_lst, gIx_fro, VS.atI_nat, atI_0, atI_1, atI_2, VS.atI_last, gEq_int, gNe_int, gAdd, gSubI, gMul, gMod, gDiv, q_put_put, q_put_more, q_put_copy, q_put_tell, q_put_go, q_put_ask, q_put_stop, q_more_put, q_more_more, q_more_copy, q_more_tell, q_more_go, q_more_ask, q_more_stop, q_copy_put, q_copy_more, q_copy_copy, q_copy_tell, q_copy_go, q_copy_ask, q_copy_stop, q_tell_put, q_tell_more, q_tell_copy, q_tell_tell, q_tell_go, q_tell_ask, q_tell_stop, q_go_put, q_go_more, q_go_copy, q_go_tell, q_go_go, q_go_ask, q_go_stop, q_ask_put, q_ask_more, q_ask_copy, q_ask_tell, q_ask_go, q_ask_ask, q_ask_stop, q_stop_put, q_stop_more, q_stop_copy, q_stop_tell, q_stop_go, q_stop_ask, q_stop_stop, hr, nx, tl, oS, oN, stT]
end K11

namespace K11
open PySem PySem.Spec PyProof.Rows L2 Evl VS
/-! ### turned -/
def Rl.w (l : List Nat) : Rl → Option Nat
  | .is v => v
  | .by_ b ns => (ns[(l[b]?).getD 0]?).getD none
def turnN (l : List Nat) : List Rl → Option (List Nat)
  | [] => some []
  | r :: rs => match r.w l, turnN l rs with
    | some n, some ns => some (n :: ns)
    | _, _ => none
def oL : Option (List Nat) → T
  | none => .non
  | some l => numsT l
theorem by_at {p q : Pg} {l : List Nat} {b : Nat} {ns : List (Option Nat)} (h : (Rl.by_ b ns).ok p q) (hl : Nums p l) : b < l.length ∧ (ns.map oN)[(l[b]?).getD 0]? = some (oN ((ns[(l[b]?).getD 0]?).getD none)) := by
  obtain ⟨h1, h2, h3⟩ := h
  have hb : b < l.length := by have := hl.1; omega
  refine ⟨hb, ?_⟩
  have hn : (l[b]?).getD 0 < ns.length := by
    rw [List.getElem?_eq_getElem hb]
    have := hl.2 _ (List.getElem_mem hb)
    show l[b] < ns.length
    omega
  rw [List.getElem?_map, List.getElem?_eq_getElem hn]
  rfl
theorem eqT_oN (n : Option Nat) : eqT (oN n) .non = decide (n = none) := by cases n <;> simp [oN, VS.eqT]
theorem flat_oN (n : Option Nat) : (oN n).flat = true := by cases n <;> rfl
theorem turnN_none (l : List Nat) : ∀ rs : List Rl, (rs.map fun r => oN (r.w l)).any (fun z => eqT z .non) = true → turnN l rs = none
  | [], h => by simp at h
  | r :: rs, h => by
    simp only [List.map_cons, List.any_cons, eqT_oN, Bool.or_eq_true, decide_eq_true_eq] at h
    unfold turnN
    rcases h with h | h
    · rw [h]
    · rw [turnN_none l rs (by simpa [eqT_oN] using h)]
      cases r.w l <;> rfl
theorem turnN_some (l : List Nat) : ∀ rs : List Rl, (rs.map fun r => oN (r.w l)).any (fun z => eqT z .non) = false → ∃ ns : List Nat, turnN l rs = some ns ∧ rs.map (fun r => oN (r.w l)) = ns.map fun n => .int (n : Nat)
  | [], h => ⟨[], rfl, rfl⟩
  | r :: rs, h => by
    simp only [List.map_cons, List.any_cons, eqT_oN, Bool.or_eq_false_iff, decide_eq_false_iff_not] at h
    obtain ⟨ns, h1, h2⟩ := turnN_some l rs (by simpa [eqT_oN] using h.2)
    cases e : r.w l with
    | none => exact absurd e h.1
    | some n =>
      refine ⟨n :: ns, ?_, ?_⟩
      · unfold turnN
        rw [e, h1]
      · rw [List.map_cons, List.map_cons, h2, e]
        rfl
theorem worth_ok {p q : Pg} {l : List Nat} {r : Rl} (h : r.ok p q) (hl : Nums p l) : m_worth [r.t, numsT l] = .ok (oN (r.w l)) := by
  unfold m_worth b_worth
  cases r with
  | is v => simp [fDef, sSeq, sLift, sRet, sIf, sSet, sNew, sExp, sNx, sAsg, setT, setAll, sFrz, frz, sRaise, sApp, eB, eU, eC, eV, eW, eCh, eAnd, eOr, eNot, eIf, eTup, eLst, eNeg, eSl, oNone, oSome, aNil, aCons, eCall, Res.bind, Res.of, gI, gLen, gInt, gList, gTuple, gType, tyName, gTyIs, gIsi, gIsN', gNotN', T.isNon, T.isFn, gIx_tup, gIx_lst, gIx_fro, VS.atI_nat, atI_0, atI_1, atI_2, VS.atI_last, gEq_int, gNe_int, gAdd, gSubI, gMul, gMod, gDiv, e_is_is, Rl.t, Rl.w]
  | by_ b ns =>
    obtain ⟨hb, h2⟩ := by_at h hl
    have h3 := numsT_at hb
    simp only [List.getElem?_map] at h2 h3
    unfold numsT
    simp [fDef, sSeq, sLift, sRet, sIf, sSet, sNew, sExp, sNx, sAsg, setT, setAll, sFrz, frz, sRaise, sApp, eB, eU, eC, eV, eW, eCh, eAnd, eOr, eNot, eIf, eTup, eLst, eNeg, eSl, oNone, oSome, aNil, aCons, eCall, Res.bind, Res.of, gI, gLen, gInt, gList, gTuple, gType, tyName, gTyIs, gIsi, gIsN', gNotN', T.isNon, T.isFn, gIx_tup, gIx_lst, gIx_fro, VS.atI_nat, atI_0, atI_1, atI_2, VS.atI_last, gEq_int, gNe_int, gAdd, gSubI, gMul, gMod, gDiv, e_by_is, Rl.t, Rl.w, h3, h2]
theorem turned_ok {p q : Pg} {l : List Nat} {rs : List Rl} (h : Rls p q rs) (hq : q.ok) (hl : Nums p l) : m_turned [rulesT rs, numsT l] = .ok (oL (turnN l rs)) := by
  have hlen : (rs.map Rl.t).length ≤ 1000 := by rw [List.length_map, h.len]; have := hq.b3; omega
  have c1 : compF (.nm 3) (eC (.bl true)) (eCall 2 m_worth (aCons (eV 3) (aCons (eV 1) aNil))) (rs.map Rl.t) [.sh (rulesT rs), .sh (numsT l), .un, .un] = .ok (rs.map fun r => oN (r.w l)) := by
    have hw : ∀ r ∈ rs, m_worth [r.t, numsT l] = .ok (oN (r.w l)) := fun r m => worth_ok (h.ok r m) hl
    generalize m_worth = F at hw
    have e : ∀ t ∈ rs.map Rl.t, ∃ r ∈ rs, t = r.t := fun t m => by
      obtain ⟨r, h1, h2⟩ := List.mem_map.mp m
      exact ⟨r, h1, h2.symm⟩
    clear h hlen e
    generalize Sl.sh (rulesT rs) = s0
    induction rs with
    | nil => rfl
    | cons r rs ih =>
      rw [List.map_cons, List.map_cons]
      unfold compF
      simp only [setT, List.set_cons_succ, List.set_cons_zero, eC]
      simp only [eCall, aCons, aNil, eV, List.getElem?_cons_succ, List.getElem?_cons_zero, Res.bind, List.length_cons, List.length_nil, if_true, hw r List.mem_cons_self]
      rw [ih fun r m => hw r (List.mem_cons_of_mem _ m)]
  have c2 : (eComp (iIt (eV 0)) (.nm 3) [3] (eC (.bl true)) (eCall 2 m_worth (aCons (eV 3) (aCons (eV 1) aNil)))) [.sh (rulesT rs), .sh (numsT l), .un, .un] = .ok (.lst (rs.map fun r => oN (r.w l))) := by
    unfold eComp
    have w : wipeE [.sh (rulesT rs), .sh (numsT l), .un, .un] [3] = [.sh (rulesT rs), .sh (numsT l), .un, .un] := rfl
    have i1 : iIt (eV 0) [.sh (rulesT rs), .sh (numsT l), .un, .un] = .ok (rs.map Rl.t) := rfl
    rw [w, i1]
    simp only [Res.bind]
    rw [c1]
    simp only [Res.bind]
    rw [if_pos (by rw [List.length_map]; rw [List.length_map] at hlen; exact le_big9 hlen)]
  have hf : (rs.map fun r => oN (r.w l)).all T.flat = true := by simp [flat_oN]
  refine fDef_rt ?_
  show b_turned [.sh (rulesT rs), .sh (numsT l), .un, .un] = _
  unfold b_turned
  have a1 : (sNew 2 (eComp (iIt (eV 0)) (.nm 3) [3] (eC (.bl true)) (eCall 2 m_worth (aCons (eV 3) (aCons (eV 1) aNil))))) [.sh (rulesT rs), .sh (numsT l), .un, .un] = .nx [.sh (rulesT rs), .sh (numsT l), .ow (.lst (rs.map fun r => oN (r.w l))), .un] := by
    unfold sNew sLift
    rw [c2]
    rfl
  rw [sSeq_nx a1]
  generalize hL : (rs.map fun r => oN (r.w l)) = L at *
  have g1 : gIn false .non (.lst L) = some (.bl (L.any fun z => eqT z .non)) := by
    unfold gIn
    simp [T.flat, hf]
  cases e : L.any fun z => eqT z .non with
  | true =>
    rw [e] at g1
    rw [← hL] at e
    rw [turnN_none l rs e]
    refine sSeq_rt ?_
    simp [sIf, sLift, eB, eW, eC, Res.bind, Res.of, g1, sRet, oL]
  | false =>
    rw [e] at g1
    rw [← hL] at e
    obtain ⟨ns, h1, h2⟩ := turnN_some l rs e
    rw [hL] at h2
    rw [h1, sSeq_nx (ρ' := [.sh (rulesT rs), .sh (numsT l), .ow (.lst L), .un]) (by simp [sIf, sLift, eB, eW, eC, Res.bind, Res.of, g1, sNx]), h2]
    rfl
/-! ### by_row -/
def keysT (ps : List Pl) : List T := ps.map fun x => .int (x.row : Nat)
def byT (ps : List Pl) : T := .dic (keysT ps) (ps.map Pl.t)
theorem row_nd {ps : List Pl} (h : (ps.map Pl.row).Nodup) : (ps.map fun x => ((x.row : Nat) : Int)).Nodup := by
  have e : (ps.map fun x => ((x.row : Nat) : Int)) = (ps.map Pl.row).map fun n => ((n : Nat) : Int) := by rw [List.map_map]; rfl
  rw [e]
  exact List.Pairwise.map _ (fun a b h q => h (by omega)) h
theorem by_row_ok {ps : List Pl} (h : (ps.map Pl.row).Nodup) (hl : ps.length ≤ 1000) : m_by_row [.lst (ps.map Pl.t)] = .ok (byT ps) := by
  refine fDef_rt ?_
  show b_by_row [.sh (.lst (ps.map Pl.t)), .un] = _
  unfold b_by_row
  exact sRet_ok (eDComp_keys (u := Pl.t) (kf := fun x => ((x.row : Nat) : Int)) (wf := Pl.t) rfl hl (row_nd h) fun x m => ⟨rfl, rfl⟩)
theorem in_byT (ps : List Pl) (o : Nat) : gDIn false (.int (o : Nat)) (byT ps) = some (.bl (ps.any fun x => x.row == o)) := by
  have e := gDIn_keys (kf := fun x : Pl => ((x.row : Nat) : Int)) (ws := ps.map Pl.t) ps (o : Int)
  have e2 : (ps.any fun a => ((a.row : Nat) : Int) == (o : Int)) = ps.any fun x => x.row == o := by
    congr 1
    funext x
    by_cases c : x.row = o
    · rw [c]; simp
    · have c' : ¬ ((x.row : Nat) : Int) = o := by omega
      rw [beq_eq_false_iff_ne.mpr c, beq_eq_false_iff_ne.mpr c']
  rw [e2] at e
  exact e
theorem get_byT (ps : List Pl) (o : Nat) : gDGet (byT ps) (.int (o : Nat)) = (ps.find? fun x => x.row == o).map Pl.t := by
  have e := gDGet_keys (kf := fun x : Pl => ((x.row : Nat) : Int)) (wf := Pl.t) ps (o : Int)
  have e2 : (ps.find? fun a => ((a.row : Nat) : Int) == (o : Int)) = ps.find? fun x => x.row == o := by
    congr 1
    funext x
    by_cases c : x.row = o
    · rw [c]; simp
    · have c' : ¬ ((x.row : Nat) : Int) = o := by omega
      rw [beq_eq_false_iff_ne.mpr c, beq_eq_false_iff_ne.mpr c']
  rw [e2] at e
  exact e
theorem okRow (r : Rw) : okD 18 r.t = true := by
  cases r <;> simp [Rw.t, okD_tup, okDs_cons, okDs_nil, okD_int, o_put, o_more, o_copy, o_tell, o_go, o_ask, o_stop]
theorem okRows (l : List Rw) : okDs 18 (l.map Rw.t) = true := by
  induction l with
  | nil => exact okDs_nil 18
  | cons x xs ih => rw [List.map_cons, okDs_cons, okRow, ih]; rfl
theorem okPg (p : Pg) : okD 20 p.t = true := by
  unfold Pg.t
  rw [okD_tup, okDs_cons, okDs_cons, okDs_cons, okDs_nil, okD_int, okD_int, okD_lst, okRows]
  rfl
end K11

namespace K11
open PySem PySem.Spec PyProof.Rows L2 Evl VS
/-! ### states as keys -/
def sT (s : Nat × List Nat) : T := stT s.1 s.2
def keyN (l : List Nat) : List NestedKey := l.map fun n => .num (n : Nat)
def keyS (s : Nat × List Nat) : NestedKey := .tup [.num (s.1 : Nat), .tup (keyN s.2)]
theorem nks_nums (l : List Nat) : nks? (l.map fun n => T.int (n : Nat)) = some (keyN l) := by
  induction l with
  | nil => rfl
  | cons n l ih =>
    rw [List.map_cons]
    unfold nks?
    rw [ih]
    rfl
theorem depth_nums (l : List Nat) : NestedKey.depthAll (keyN l) = 0 := by
  induction l with
  | nil => rfl
  | cons n l ih =>
    show NestedKey.depthAll (.num (n : Nat) :: keyN l) = 0
    unfold NestedKey.depthAll
    rw [ih]
    rfl
theorem tk_sT (s : Nat × List Nat) : tk? (sT s) = some (keyS s) := by
  have e : nks? [T.int (s.1 : Nat), numsT s.2] = some [.num (s.1 : Nat), .tup (keyN s.2)] := by
    unfold nks? nks? nks? numsT
    rw [show nk? (T.int (s.1 : Nat)) = some (.num (s.1 : Nat)) from rfl]
    rw [show nk? (.tup (s.2.map fun n => T.int (n : Nat))) = (nks? (s.2.map fun n => T.int (n : Nat))).map .tup from rfl, nks_nums]
    rfl
  have d : (NestedKey.tup [.num (s.1 : Nat), .tup (keyN s.2)]).depth ≤ 8 := by
    simp [NestedKey.depth, NestedKey.depthAll, depth_nums]
  unfold sT stT tk?
  simp only [e]
  rw [if_pos d]
  rfl
theorem keyS_inj {a b : Nat × List Nat} (h : keyS a = keyS b) : a = b := by
  obtain ⟨i, l⟩ := a
  obtain ⟨j, m⟩ := b
  unfold keyS at h
  injection h with h
  injection h with h1 h2
  injection h1 with h1
  injection h2 with h2 _
  injection h2 with h2
  have e1 : i = j := by
    have h1 : ((i : Nat) : Int) = (j : Nat) := h1
    omega
  have e2 : ∀ l m : List Nat, keyN l = keyN m → l = m := by
    intro l
    induction l with
    | nil =>
      intro m e
      cases m with
      | nil => rfl
      | cons b m => cases e
    | cons a l ih =>
      intro m e
      cases m with
      | nil => cases e
      | cons b m =>
        have e' : NestedKey.num (a : Nat) :: keyN l = .num (b : Nat) :: keyN m := e
        injection e' with q1 q2
        injection q1 with q1
        rw [ih m q2, show a = b by omega]
  rw [e1, e2 l m h2]
theorem tkEq_sT (a b : Nat × List Nat) : tkEq (sT a) (sT b) = decide (a = b) := by
  unfold tkEq
  rw [tk_sT, tk_sT]
  by_cases h : a = b
  · rw [h]; simp
  · rw [decide_eq_false h, decide_eq_false]
    intro z
    injection z with z
    exact h (keyS_inj z)
theorem any_sT (vis : List (Nat × List Nat)) (s : Nat × List Nat) : ((vis.map sT).any fun z => tkEq z (sT s)) = decide (s ∈ vis) := by
  induction vis with
  | nil => rfl
  | cons a l ih =>
    rw [List.map_cons, List.any_cons, ih, tkEq_sT]
    by_cases h : a = s
    · subst h; simp
    · have h' : ¬ s = a := fun z => h z.symm
      simp [h, h']
def nT (k n : Nat) : List T := (List.range' k n).map fun i => .int (i : Nat)
theorem look_sT (s : Nat × List Nat) : ∀ (vis : List (Nat × List Nat)) (k : Nat), s ∈ vis → lookK (vis.map sT) (nT k vis.length) (sT s) = some (.int ((k + vis.idxOf s : Nat) : Nat))
  | [], _, h => by cases h
  | a :: l, k, h => by
    show (if tkEq (sT a) (sT s) then some (T.int (k : Nat)) else lookK (l.map sT) (nT (k + 1) l.length) (sT s)) = _
    rw [tkEq_sT]
    by_cases e : a = s
    · subst e
      rw [if_pos (by simp), List.idxOf_cons_self]
      rfl
    · have h' : s ∈ l := by
        rcases List.mem_cons.mp h with h | h
        · exact absurd h.symm e
        · exact h
      rw [if_neg (by simpa using e), look_sT s l (k + 1) h', List.idxOf_cons, show (a == s) = false from by simpa using e]
      rw [cond_false, show k + 1 + List.idxOf s l = k + (List.idxOf s l + 1) by omega]
theorem put_sT {vis : List (Nat × List Nat)} {s : Nat × List Nat} (h : ¬ s ∈ vis) (t : T) {ws : List T} : putK2 (vis.map sT) ws (sT s) t = ((vis ++ [s]).map sT, ws ++ [t]) := by
  unfold putK2
  rw [any_sT, decide_eq_false h, if_neg (by decide), List.map_append]
  rfl
theorem nT_snoc (n : Nat) : nT 0 n ++ [T.int (n : Nat)] = nT 0 (n + 1) := by
  unfold nT
  rw [List.range'_concat, List.map_append]
  simp
/-! ### where it comes -/
def nxt (p : Pg) (s : Nat × List Nat) : Option (Nat × List Nat) := match p.rows[s.1]? with
  | some r => nx p s.1 s.2 r
  | none => none
def St (p : Pg) (i : Nat) (l : List Nat) : Prop := i < p.rows.length ∧ Nums p l
def StO (p : Pg) : Option (Nat × List Nat) → Prop
  | none => True
  | some (i, l) => St p i l
def metF (p : Pg) (ps : List Pl) : Nat → List (Nat × List Nat) → Option (Nat × List Nat) → Option T
  | 0, _, _ => none
  | _ + 1, vis, none => some (.tup [.str "over", .int (vis.length : Nat)])
  | n + 1, vis, some s =>
    if s ∈ vis then some (.tup [.str "missed", .int (vis.idxOf s : Nat), .int ((vis.length : Nat) - (vis.idxOf s : Nat))])
    else match ps.find? (fun x => x.row == s.1) with
      | some x => some (.tup [.str (if (turnN s.2 x.rules).isNone then "stuck" else "comes"), .int (vis.length : Nat)])
      | none => metF p ps n (vis ++ [s]) (nxt p s)
/-! ### a run -/
theorem nx_good {p : Pg} {i : Nat} {l : List Nat} {r : Rw} (h : p.ok) (hr : p.rows[i]? = some r) (hs : St p i l) : StO p (nx p i l r) := by
  have hk := h.rows r (List.mem_of_getElem? hr)
  have hn := hs.2.1
  have hm := hs.2.2
  have more : r.ends = false → i + 1 < p.rows.length := fun e => by
    rcases Nat.lt_or_ge (i + 1) p.rows.length with q | q
    · exact q
    · have e2 : i = p.rows.length - 1 := by have := hs.1; omega
      have := h.last r (by rw [List.getLast?_eq_getElem?, ← e2]; exact hr)
      rw [e] at this
      cases this
  have put : ∀ (b v : Nat), v ≤ p.M → Nums p (l.set b v) := fun b v hv => ⟨by rw [List.length_set]; exact hn, fun n m => by
    rcases List.mem_or_eq_of_mem_set m with m | m
    · exact hm n m
    · rw [m]; exact hv⟩
  have get : ∀ b : Nat, (l[b]?).getD 0 ≤ p.M := fun b => by
    cases e : l[b]? with
    | none => exact Nat.zero_le _
    | some v => exact hm v (List.mem_of_getElem? e)
  cases r with
  | put b n => exact ⟨more rfl, put b n hk.2⟩
  | more b =>
    refine ⟨more rfl, put b _ ?_⟩
    have := get b
    split <;> omega
  | copy b o => exact ⟨more rfl, put b _ (get o)⟩
  | tell b => exact ⟨more rfl, hs.2⟩
  | go r => exact ⟨hk, hs.2⟩
  | ask b r =>
    refine ⟨?_, hs.2⟩
    split
    · exact hk.2
    · exact more rfl
  | stop => trivial
/-! ### it ends -/
theorem nodup_lt : ∀ (N : Nat) (l : List Nat), l.Nodup → (∀ x ∈ l, x < N) → l.length ≤ N
  | 0, l, _, h => by
    cases l with
    | nil => exact Nat.le_refl _
    | cons a l => exact absurd (h a List.mem_cons_self) (Nat.not_lt_zero _)
  | N + 1, l, nd, h => by
    have e := nodup_lt N (l.erase N) (nd.erase N) fun x m => by
      have h1 := h x (List.mem_of_mem_erase m)
      have h2 : x ≠ N := fun z => by
        subst z
        exact nd.not_mem_erase m
      omega
    by_cases m : N ∈ l
    · rw [List.length_erase_of_mem m] at e; omega
    · rw [List.erase_of_not_mem m] at e; omega
def dig : List Nat → Nat
  | [] => 0
  | n :: l => n + 5 * dig l
theorem dig_lt : ∀ (k : Nat) (l : List Nat), l.length = k → (∀ n ∈ l, n ≤ 4) → dig l < 5 ^ k
  | 0, l, e, _ => by
    obtain rfl := List.eq_nil_of_length_eq_zero e
    decide
  | k + 1, l, e, h => by
    cases l with
    | nil => cases e
    | cons a l =>
      have h1 := dig_lt k l (by simpa using e) fun n m => h n (List.mem_cons_of_mem _ m)
      have h2 := h a List.mem_cons_self
      show a + 5 * dig l < 5 ^ (k + 1)
      rw [Nat.pow_succ]
      omega
theorem dig_inj : ∀ (l m : List Nat), l.length = m.length → (∀ n ∈ l, n ≤ 4) → (∀ n ∈ m, n ≤ 4) → dig l = dig m → l = m
  | [], m, e, _, _, _ => (List.eq_nil_of_length_eq_zero e.symm).symm
  | a :: l, m, e, h1, h2, h => by
    cases m with
    | nil => cases e
    | cons b m =>
      have q1 := h1 a List.mem_cons_self
      have q2 := h2 b List.mem_cons_self
      have h : a + 5 * dig l = b + 5 * dig m := h
      have e1 : a = b := by omega
      have e2 : dig l = dig m := by omega
      rw [e1, dig_inj l m (by simpa using e) (fun n z => h1 n (List.mem_cons_of_mem _ z)) (fun n z => h2 n (List.mem_cons_of_mem _ z)) e2]
def cod (s : Nat × List Nat) : Nat := s.1 * 125 + dig s.2
def StA (p : Pg) (vis : List (Nat × List Nat)) : Prop := ∀ s ∈ vis, St p s.1 s.2
theorem dig_125 {p : Pg} (h : p.ok) {i : Nat} {l : List Nat} (hs : St p i l) : dig l < 125 := by
  have e := dig_lt p.B l hs.2.1 fun n m => Nat.le_trans (hs.2.2 n m) h.m4
  exact Nat.lt_of_lt_of_le e (Nat.le_trans (Nat.pow_le_pow_right (by decide) h.b3) (by decide))
theorem cod_lt {p : Pg} (h : p.ok) {s : Nat × List Nat} (hs : St p s.1 s.2) : cod s < 2500 := by
  have e := dig_125 h hs
  have := hs.1
  have := h.n20
  unfold cod
  omega
theorem cod_inj {p : Pg} (h : p.ok) {s r : Nat × List Nat} (hs : St p s.1 s.2) (hr : St p r.1 r.2) (e : cod s = cod r) : s = r := by
  have e1 := dig_125 h hs
  have e2 := dig_125 h hr
  unfold cod at e
  have q1 : s.1 = r.1 := by omega
  have q2 : dig s.2 = dig r.2 := by omega
  have q3 := dig_inj s.2 r.2 (by rw [hs.2.1, hr.2.1]) (fun n m => Nat.le_trans (hs.2.2 n m) h.m4) (fun n m => Nat.le_trans (hr.2.2 n m) h.m4) q2
  exact Prod.ext q1 q3
theorem nodup_map {α β : Type} {f : α → β} : ∀ (l : List α), l.Nodup → (∀ a ∈ l, ∀ b ∈ l, f a = f b → a = b) → (l.map f).Nodup
  | [], _, _ => List.nodup_nil
  | a :: l, nd, h => by
    rw [List.map_cons, List.nodup_cons]
    refine ⟨fun m => ?_, nodup_map l (List.nodup_cons.mp nd).2 fun x hx y hy => h x (List.mem_cons_of_mem _ hx) y (List.mem_cons_of_mem _ hy)⟩
    obtain ⟨b, hb, e⟩ := List.mem_map.mp m
    have := h b (List.mem_cons_of_mem _ hb) a List.mem_cons_self e
    subst this
    exact (List.nodup_cons.mp nd).1 hb
theorem vis_len {p : Pg} (h : p.ok) {vis : List (Nat × List Nat)} (nd : vis.Nodup) (ok : StA p vis) : vis.length ≤ 2500 := by
  have e := nodup_lt 2500 (vis.map cod) (nodup_map vis nd fun a ha b hb z => cod_inj h (ok a ha) (ok b hb) z) fun x m => by
    obtain ⟨s, hs, rfl⟩ := List.mem_map.mp m
    exact cod_lt h (ok s hs)
  rw [List.length_map] at e
  exact e
theorem nxt_ok {p : Pg} (h : p.ok) {s : Nat × List Nat} (hs : St p s.1 s.2) : StO p (nxt p s) := by
  unfold nxt
  rw [List.getElem?_eq_getElem hs.1]
  exact nx_good h (List.getElem?_eq_getElem hs.1) hs
theorem vis_snoc {p : Pg} {vis : List (Nat × List Nat)} {s : Nat × List Nat} (nd : vis.Nodup) (ok : StA p vis) (hs : St p s.1 s.2) (hn : ¬ s ∈ vis) : (vis ++ [s]).Nodup ∧ StA p (vis ++ [s]) := by
  refine ⟨?_, fun x m => ?_⟩
  · rw [List.nodup_append]
    refine ⟨nd, by simp, fun a ha b hb e => ?_⟩
    rw [List.mem_singleton] at hb
    subst hb
    subst e
    exact hn ha
  · rcases List.mem_append.mp m with m | m
    · exact ok x m
    · rw [List.mem_singleton] at m
      subst m
      exact hs
theorem metF_ends {p : Pg} (h : p.ok) (ps : List Pl) : ∀ (n : Nat) (vis : List (Nat × List Nat)) (o : Option (Nat × List Nat)), vis.Nodup → StA p vis → StO p o → 2501 ≤ vis.length + n → ∃ t, metF p ps n vis o = some t
  | 0, vis, o, nd, ok, _, hl => by
    have := vis_len h nd ok
    omega
  | n + 1, vis, none, _, _, _, _ => ⟨_, rfl⟩
  | n + 1, vis, some s, nd, ok, hs, hl => by
    have hs : St p s.1 s.2 := hs
    unfold metF
    by_cases m : s ∈ vis
    · exact ⟨_, if_pos m⟩
    · rw [if_neg m]
      cases e : ps.find? (fun x => x.row == s.1) with
      | some x => exact ⟨_, rfl⟩
      | none =>
        obtain ⟨nd', ok'⟩ := vis_snoc nd ok hs m
        exact metF_ends h ps n (vis ++ [s]) (nxt p s) nd' ok' (nxt_ok h hs) (by rw [List.length_append]; simp; omega)
end K11

namespace K11
open PySem PySem.Spec PyProof.Rows L2 Evl VS
/-! ### the loops -/
theorem lt_big4 {n : Nat} (h : n ≤ 4000) : n < 100000 := Nat.lt_of_le_of_lt h (by decide)
theorem whF_f {fc : FE} {body : FS} {n : Nat} {ρ : Ev'} (h : fc ρ = .ok (.bl false)) : whF fc body (n + 1) ρ = .nx ρ := by
  unfold whF
  rw [h]
  rfl
theorem whF_nx {fc : FE} {body : FS} {n : Nat} {ρ ρ2 : Ev'} (h : fc ρ = .ok (.bl true)) (hb : body ρ = .nx ρ2) : whF fc body (n + 1) ρ = whF fc body n ρ2 := by
  conv => lhs; unfold whF
  rw [h]
  show (match body ρ with | .nx ρ2 => whF fc body n ρ2 | .ct ρ2 => whF fc body n ρ2 | .bk ρ2 => .nx ρ2 | .rt t => .rt t | .ex x p r => .ex x p r | .bad => .bad) = _
  rw [hb]
theorem whF_rt {fc : FE} {body : FS} {n : Nat} {ρ : Ev'} {t : T} (h : fc ρ = .ok (.bl true)) (hb : body ρ = .rt t) : whF fc body (n + 1) ρ = .rt t := by
  unfold whF
  rw [h]
  show (match body ρ with | .nx ρ2 => whF fc body n ρ2 | .ct ρ2 => whF fc body n ρ2 | .bk ρ2 => .nx ρ2 | .rt t => .rt t | .ex x p r => .ex x p r | .bad => .bad) = _
  rw [hb]
theorem any_find {α : Type} (f : α → Bool) (l : List α) : l.any f = (l.find? f).isSome := by
  induction l with
  | nil => rfl
  | cons a l ih =>
    rw [List.any_cons, List.find?_cons]
    cases f a with
    | true => rfl
    | false => exact ih
def lrT (ps : List Pl) : T := .dic (keysT ps) (ps.map fun x => rulesT x.rules)
theorem in_lrT (ps : List Pl) (o : Nat) : gDIn false (.int (o : Nat)) (lrT ps) = some (.bl (ps.any fun x => x.row == o)) := by
  have e := gDIn_keys (kf := fun x : Pl => ((x.row : Nat) : Int)) (ws := ps.map fun x => rulesT x.rules) ps (o : Int)
  have e2 : (ps.any fun a => ((a.row : Nat) : Int) == (o : Int)) = ps.any fun x => x.row == o := by
    congr 1
    funext x
    by_cases c : x.row = o
    · rw [c]; simp
    · have c' : ¬ ((x.row : Nat) : Int) = o := by omega
      rw [beq_eq_false_iff_ne.mpr c, beq_eq_false_iff_ne.mpr c']
  rw [e2] at e
  exact e
theorem get_lrT (ps : List Pl) (o : Nat) : gDGet (lrT ps) (.int (o : Nat)) = (ps.find? fun x => x.row == o).map fun x => rulesT x.rules := by
  have e := gDGet_keys (kf := fun x : Pl => ((x.row : Nat) : Int)) (wf := fun x : Pl => rulesT x.rules) ps (o : Int)
  have e2 : (ps.find? fun a => ((a.row : Nat) : Int) == (o : Int)) = ps.find? fun x => x.row == o := by
    congr 1
    funext x
    by_cases c : x.row = o
    · rw [c]; simp
    · have c' : ¬ ((x.row : Nat) : Int) = o := by omega
      rw [beq_eq_false_iff_ne.mpr c, beq_eq_false_iff_ne.mpr c']
  rw [e2] at e
  exact e
theorem isN_oL (o : Option (List Nat)) : gIsN' (oL o) .non = some (.bl o.isNone) := by cases o <;> rfl
theorem stuck_ok {p q : Pg} {ps : List Pl} {s : Nat × List Nat} {x : Pl} (hq : q.ok) (hps : Pls p q ps) (hs : St p s.1 s.2) (hx : ps.find? (fun x => x.row == s.1) = some x) : m_is_stuck [byT ps, sT s] = .ok (.bl (turnN s.2 x.rules).isNone) := by
  have hm := List.mem_of_find?_eq_some hx
  have h1 := turned_ok (hps.ok x hm).rules hq hs.2
  have h2 : gDIn false (.int (s.1 : Nat)) (byT ps) = some (.bl true) := by rw [in_byT, any_find, hx]; rfl
  have h3 : gDGet (byT ps) (.int (s.1 : Nat)) = some x.t := by rw [get_byT, hx]; rfl
  have h4 : gIx x.t (.int 2) = some (rulesT x.rules) := rfl
  have h5 := isN_oL (turnN s.2 x.rules)
  refine fDef_rt ?_
  show b_is_stuck [.sh (byT ps), .sh (sT s), .un, .un] = _
  unfold b_is_stuck
  generalize m_turned = F at *
  generalize oL (turnN s.2 x.rules) = R at *
  refine pAsg (P := fun o => o = .rt (T.bl (turnN s.2 x.rules).isNone)) (ρ' := [.sh (byT ps), .sh (sT s), .sh (.int (s.1 : Nat)), .sh (numsT s.2)]) rfl rfl ?_
  refine pRet (P := fun o => o = .rt (T.bl (turnN s.2 x.rules).isNone)) (eAnd_bl (a := true) (eB_ok rfl rfl h2) fun _ => (eB_ok (eCall_ok (aCons_ok (eB_ok (eB_ok rfl rfl h3) rfl h4) (aCons_ok rfl rfl)) rfl h1) rfl h5)) ?_
  rfl
theorem ndHas_sT {vis : List (Nat × List Nat)} {s : Nat × List Nat} : ndHas (vis.map sT) (sT s) = some (decide (s ∈ vis)) := by
  show (match tk? (sT s) with | some _ => some ((vis.map sT).any fun z => tkEq z (sT s)) | none => none) = _
  rw [tk_sT, any_sT]
theorem dtIn_ok {neg : Bool} {i : Nat} {fa : FE} {ρ : Ev'} {vis : List (Nat × List Nat)} {ws : List T} {s : Nat × List Nat} (h : ρ[i]? = some (.dp (.dt (vis.map sT) ws))) (ha : fa ρ = .ok (sT s)) : eDtIn neg i fa ρ = .ok (.bl (if neg then !decide (s ∈ vis) else decide (s ∈ vis))) := by
  unfold eDtIn
  rw [ha]
  show (match ρ[i]? with | some (.dp (.dt ks _)) => (match ndHas ks (sT s) with | some b => Res.ok (T.bl (if neg then !b else b)) | none => .bad) | _ => .bad) = _
  rw [h]
  show (match ndHas (vis.map sT) (sT s) with | some b => Res.ok (T.bl (if neg then !b else b)) | none => .bad) = _
  rw [ndHas_sT]
theorem dtIn_non {neg : Bool} {i : Nat} {fa : FE} {ρ : Ev'} {ks ws : List T} (h : ρ[i]? = some (.dp (.dt ks ws))) (ha : fa ρ = .ok .non) : eDtIn neg i fa ρ = .ok (.bl neg) := by
  unfold eDtIn
  rw [ha]
  show (match ρ[i]? with | some (.dp (.dt ks _)) => (match ndHas ks .non with | some b => Res.ok (T.bl (if neg then !b else b)) | none => .bad) | _ => .bad) = _
  rw [h]
  cases neg <;> rfl
theorem dtLen_ok {i : Nat} {ρ : Ev'} {vis : List (Nat × List Nat)} {ws : List T} (h : ρ[i]? = some (.dp (.dt (vis.map sT) ws))) : eDtLen i ρ = .ok (.int (vis.length : Nat)) := by
  unfold eDtLen
  rw [h]
  show Res.ok (T.int ((vis.map sT).length : Nat)) = _
  rw [List.length_map]
theorem dtGet_ok {i : Nat} {fk : FE} {ρ : Ev'} {vis : List (Nat × List Nat)} {s : Nat × List Nat} (h : ρ[i]? = some (.dp (.dt (vis.map sT) (nT 0 vis.length)))) (hk : fk ρ = .ok (sT s)) (hm : s ∈ vis) : eDtGet i fk ρ = .ok (.int (vis.idxOf s : Nat)) := by
  unfold eDtGet
  rw [h]
  show ((fk ρ).bind fun k => (match tk? k with | some _ => Res.of (lookK (vis.map sT) (nT 0 vis.length) k) | none => .bad)) = _
  rw [hk]
  show (match tk? (sT s) with | some _ => Res.of (lookK (vis.map sT) (nT 0 vis.length) (sT s)) | none => .bad) = _
  rw [tk_sT]
  show Res.of (lookK (vis.map sT) (nT 0 vis.length) (sT s)) = _
  rw [look_sT s vis 0 hm, Nat.zero_add]
  rfl
theorem dtPut_ok {i : Nat} {fk fe : FE} {ρ : Ev'} {vis : List (Nat × List Nat)} {s : Nat × List Nat} (h : ρ[i]? = some (.dp (.dt (vis.map sT) (nT 0 vis.length)))) (he : fe ρ = .ok (.int (vis.length : Nat))) (hk : fk ρ = .ok (sT s)) (hm : ¬ s ∈ vis) (hl : vis.length ≤ 4000) :
    sDtPut i fk fe ρ = .nx (ρ.set i (.dp (.dt ((vis ++ [s]).map sT) (nT 0 (vis ++ [s]).length)))) := by
  unfold sDtPut
  rw [he]
  show (match ρ[i]? with
  | some (.dp (.dt ks ws)) => sLift ρ (fk ρ) fun k => (match tk? k with | some _ => if ks.length < 100000 then Out.nx (ρ.set i (.dp (.dt (putK2 ks ws k (.int (vis.length : Nat))).1 (putK2 ks ws k (.int (vis.length : Nat))).2))) else .bad | none => .bad)
  | _ => .bad) = _
  rw [h, hk]
  show (match tk? (sT s) with | some _ => if (vis.map sT).length < 100000 then Out.nx (ρ.set i (.dp (.dt (putK2 (vis.map sT) (nT 0 vis.length) (sT s) (.int (vis.length : Nat))).1 (putK2 (vis.map sT) (nT 0 vis.length) (sT s) (.int (vis.length : Nat))).2))) else .bad | none => .bad) = _
  rw [tk_sT]
  show (if (vis.map sT).length < 100000 then Out.nx (ρ.set i (.dp (.dt (putK2 (vis.map sT) (nT 0 vis.length) (sT s) (.int (vis.length : Nat))).1 (putK2 (vis.map sT) (nT 0 vis.length) (sT s) (.int (vis.length : Nat))).2))) else .bad) = _
  rw [if_pos (by rw [List.length_map]; exact lt_big4 hl), put_sT hm, nT_snoc, List.length_append]
  rfl
def cM : FE := (eAnd (eB gNotN' (eW 5) (eC .non)) (eDtIn true 4 (eV 5)))
def bM : FS := (sSeq (sIf (eB (gDIn false) (eB gIx (eW 5) (eC (.int 0))) (eW 3)) (sRet (eTup (aCons (eIf (eCall 2 m_is_stuck (aCons (eV 3) (aCons (eV 5) aNil))) (eC (.str "stuck")) (eC (.str "comes"))) (aCons (eDtLen 4) aNil)))) sNx)
  (sSeq (sDtPut 4 (eV 5) (eDtLen 4))
  (sAsg (.tp [5, 6]) (eCall 2 m_stepped (aCons (eV 0) (aCons (eV 5) aNil))))))
def rM : FS := (sSeq (sIf (eB gIsN' (eW 5) (eC .non)) (sRet (eTup (aCons (eC (.str "over")) (aCons (eDtLen 4) aNil)))) sNx)
  (sRet (eTup (aCons (eC (.str "missed")) (aCons (eDtGet 4 (eV 5)) (aCons (eB gSubI (eDtLen 4) (eDtGet 4 (eV 5))) aNil))))))
theorem loopM {p q : Pg} {ps : List Pl} {a b : Sl} (hp : p.ok) (hq : q.ok) (hps : Pls p q ps) : ∀ (n : Nat) (vis : List (Nat × List Nat)) (o : Option (Nat × List Nat)) (z : Sl) (t : T), metF p ps n vis o = some t → StO p o → vis.length + n ≤ 4000 →
    sSeq (whF cM bM n) rM [.sh p.t, a, b, .sh (byT ps), .dp (.dt (vis.map sT) (nT 0 vis.length)), .sh (oS o), z] = .rt t
  | 0, _, _, _, _, e, _, _ => by cases e
  | n + 1, vis, none, z, t, e, _, _ => by
    unfold metF at e
    cases e
    have c : cM [.sh p.t, a, b, .sh (byT ps), .dp (.dt (vis.map sT) (nT 0 vis.length)), .sh (oS none), z] = .ok (.bl false) := rfl
    rw [sSeq_nx (whF_f c)]
    refine pIfT (P := fun o => o = .rt _) rfl ?_
    exact pRetS (P := fun o => o = .rt _) (eTup_ok (aCons_ok rfl (aCons_ok (dtLen_ok rfl) rfl)) (by show 2 ≤ 1000; decide)) rfl
  | n + 1, vis, some s, z, t, e, hs, hl => by
    have hs : St p s.1 s.2 := hs
    have c : cM [.sh p.t, a, b, .sh (byT ps), .dp (.dt (vis.map sT) (nT 0 vis.length)), .sh (sT s), z] = .ok (.bl (!decide (s ∈ vis))) :=
      eAnd_bl (a := true) rfl fun _ => dtIn_ok (neg := true) rfl rfl
    unfold metF at e
    show sSeq (whF cM bM (n + 1)) rM [.sh p.t, a, b, .sh (byT ps), .dp (.dt (vis.map sT) (nT 0 vis.length)), .sh (sT s), z] = .rt t
    by_cases m : s ∈ vis
    · rw [if_pos m] at e
      cases e
      rw [decide_eq_true m] at c
      rw [sSeq_nx (whF_f c)]
      refine pIfF (P := fun o => o = .rt _) rfl ?_
      refine pNx (P := fun o => o = .rt _) ?_
      exact pRet (P := fun o => o = .rt _) (eTup_ok (aCons_ok rfl (aCons_ok (dtGet_ok rfl rfl m) (aCons_ok (eB_ok (dtLen_ok rfl) (dtGet_ok rfl rfl m) rfl) rfl))) (by show 3 ≤ 1000; decide)) rfl
    · rw [if_neg m] at e
      rw [decide_eq_false m] at c
      have hin : gDIn false (.int (s.1 : Nat)) (byT ps) = some (.bl (ps.find? fun x => x.row == s.1).isSome) := by rw [in_byT, any_find]
      cases f : ps.find? (fun x => x.row == s.1) with
      | some x =>
        rw [f] at e hin
        cases e
        have h1 := stuck_ok hq hps hs f
        have bb : bM [.sh p.t, a, b, .sh (byT ps), .dp (.dt (vis.map sT) (nT 0 vis.length)), .sh (sT s), z] = .rt (.tup [.str (if (turnN s.2 x.rules).isNone then "stuck" else "comes"), .int (vis.length : Nat)]) := by
          unfold bM
          generalize m_is_stuck = F at *
          refine pIfT (P := fun o => o = .rt _) (eB_ok (eB_ok rfl rfl (show gIx (sT s) (.int 0) = some (.int (s.1 : Nat)) from rfl)) rfl hin) ?_
          refine pRetS (P := fun o => o = .rt _) (eTup_ok (ts := [.str (if (turnN s.2 x.rules).isNone then "stuck" else "comes"), .int (vis.length : Nat)]) (aCons_ok ?_ (aCons_ok (dtLen_ok rfl) rfl)) (by show 2 ≤ 1000; decide)) rfl
          unfold eIf
          have h2 : eCall 2 F (aCons (eV 3) (aCons (eV 5) aNil)) [.sh p.t, a, b, .sh (byT ps), .dp (.dt (vis.map sT) (nT 0 vis.length)), .sh (sT s), z] = .ok (.bl (turnN s.2 x.rules).isNone) := eCall_ok (aCons_ok rfl (aCons_ok rfl rfl)) rfl h1
          rw [h2]
          cases (turnN s.2 x.rules).isNone <;> rfl
        unfold sSeq
        rw [whF_rt c bb]
      | none =>
        rw [f] at e hin
        have hlt := hs.1
        have hr : p.rows[s.1]? = some p.rows[s.1] := List.getElem?_eq_getElem hs.1
        have h1 := stepped_ok hp hr hs.2
        have en : nxt p s = nx p s.1 s.2 p.rows[s.1] := by unfold nxt; rw [hr]
        have bb : bM [.sh p.t, a, b, .sh (byT ps), .dp (.dt (vis.map sT) (nT 0 vis.length)), .sh (sT s), z] = .nx [.sh p.t, a, b, .sh (byT ps), .dp (.dt ((vis ++ [s]).map sT) (nT 0 (vis ++ [s]).length)), .sh (oS (nxt p s)), .sh (oN (tl s.2 p.rows[s.1]))] := by
          unfold bM
          generalize m_stepped = F at *
          refine pIfF (P := fun o => o = .nx _) (eB_ok (eB_ok rfl rfl (show gIx (sT s) (.int 0) = some (.int (s.1 : Nat)) from rfl)) rfl hin) ?_
          refine pNx (P := fun o => o = .nx _) ?_
          refine pSeq (P := fun o => o = .nx _) (dtPut_ok rfl (dtLen_ok rfl) rfl m (by omega)) ?_
          simp only [List.set_cons_succ, List.set_cons_zero]
          unfold sAsg
          have h2 : eCall 2 F (aCons (eV 0) (aCons (eV 5) aNil)) [.sh p.t, a, b, .sh (byT ps), .dp (.dt ((vis ++ [s]).map sT) (nT 0 (vis ++ [s]).length)), .sh (sT s), z] = .ok (stepT p s.1 s.2 p.rows[s.1]) := eCall_ok (aCons_ok rfl (aCons_ok rfl rfl)) rfl h1
          rw [h2, en]
          rfl
        rw [show sSeq (whF cM bM (n + 1)) rM [.sh p.t, a, b, .sh (byT ps), .dp (.dt (vis.map sT) (nT 0 vis.length)), .sh (sT s), z] = sSeq (whF cM bM n) rM [.sh p.t, a, b, .sh (byT ps), .dp (.dt ((vis ++ [s]).map sT) (nT 0 (vis ++ [s]).length)), .sh (oS (nxt p s)), .sh (oN (tl s.2 p.rows[s.1]))] from by
          unfold sSeq
          rw [whF_nx c bb]]
        exact loopM hp hq hps n (vis ++ [s]) (nxt p s) _ t e (nxt_ok hp hs) (by rw [List.length_append]; simp; omega)
def metT (p : Pg) (ps : List Pl) (s : Nat × List Nat) : T := (metF p ps 3000 [] (some s)).getD .non
theorem metT_eq {p : Pg} (h : p.ok) (ps : List Pl) {s : Nat × List Nat} (hs : St p s.1 s.2) : metF p ps 3000 [] (some s) = some (metT p ps s) := by
  obtain ⟨t, e⟩ := metF_ends h ps 3000 [] (some s) List.nodup_nil (fun x m => by cases m) hs (by decide)
  unfold metT
  rw [e]
  rfl
theorem met_ok {p q : Pg} {ps : List Pl} {s : Nat × List Nat} (hp : p.ok) (hq : q.ok) (hps : Pls p q ps) (hs : St p s.1 s.2) : m_met [p.t, .lst (ps.map Pl.t), sT s] = .ok (metT p ps s) := by
  have h1 := need_state_ok hp (is_state_ok hp hs.1 hs.2)
  have h2 := by_row_ok hps.nd (by have := hps.len; have := hp.n20; omega)
  have h3 := loopM (a := .sh (.lst (ps.map Pl.t))) (b := .sh (sT s)) hp hq hps 3000 [] (some s) .un _ (metT_eq hp ps hs) hs (by decide)
  refine fDef_rt ?_
  show b_met [.sh p.t, .sh (.lst (ps.map Pl.t)), .sh (sT s), .un, .un, .un, .un] = _
  unfold b_met
  refine pExp (P := fun o => o = .rt (metT p ps s)) (eCall_ok (aCons_ok rfl (aCons_ok rfl rfl)) rfl h1) ?_
  refine pSet (P := fun o => o = .rt (metT p ps s)) (eCall_ok (aCons_ok rfl rfl) rfl h2) ?_
  refine pSeq (P := fun o => o = .rt (metT p ps s)) (f := sNewDt 4) rfl ?_
  refine pSet (P := fun o => o = .rt (metT p ps s)) rfl ?_
  exact h3
end K11

namespace K11
open PySem PySem.Spec PyProof.Rows L2 Evl VS
/-! ### worths, rules -/
theorem gNe_strs {x y : Str} {b : Bool} (h : ((x.cps.all (· < 0x110000) && y.cps.all (· < 0x110000)) && ((x == y) == !b)) = true) : gNe (.str x) (.str y) = some (.bl b) := by
  have h' := Bool.and_eq_true_iff.mp h
  have h2 : (x == y) = !b := by simpa using h'.2
  unfold gNe
  rw [okD_str, okD_str, if_pos h'.1, eqT_str, h2, Bool.not_not]
theorem e_at_is : gEq (.str "at") (.str "is") = some (.bl false) := gEq_strs (by decide +kernel)
theorem n_at_by : gNe (.str "at") (.str "by") = some (.bl true) := gNe_strs (by decide +kernel)
theorem n_by_by : gNe (.str "by") (.str "by") = some (.bl false) := gNe_strs (by decide +kernel)
theorem isworth_int (q : Pg) (z : Int) : m_is_worth [q.t, .int z] = .ok (.bl (decide (0 ≤ z) && decide (z ≤ (q.M : Nat)))) := by
  have h := whole_eq (.int z) 0 (q.M : Nat) rfl
  have h : m_whole [.int z, .int 0, .int (q.M : Nat)] = .ok (.bl (decide (0 ≤ z) && decide (z ≤ (q.M : Nat)))) := h
  refine fDef_rt ?_
  show b_is_worth [.sh q.t, .sh (.int z)] = _
  unfold b_is_worth
  generalize m_whole = F at *
  exact pRet (P := fun o => o = .rt _) (eOr_bl (a := false) rfl fun _ => eCall_ok (aCons_ok rfl (aCons_ok rfl (aCons_ok (eB_ok rfl rfl rfl) rfl))) rfl h) rfl
theorem isworth_non (q : Pg) : m_is_worth [q.t, .non] = .ok (.bl true) := by
  refine fDef_rt ?_
  show b_is_worth [.sh q.t, .sh .non] = _
  unfold b_is_worth
  generalize m_whole = F at *
  rfl
theorem isworth_bl (q : Pg) (b : Bool) : m_is_worth [q.t, .bl b] = .ok (.bl false) := by
  have h := whole_eq (.bl b) 0 (q.M : Nat) rfl
  have h : m_whole [.bl b, .int 0, .int (q.M : Nat)] = .ok (.bl false) := h
  refine fDef_rt ?_
  show b_is_worth [.sh q.t, .sh (.bl b)] = _
  unfold b_is_worth
  generalize m_whole = F at *
  exact pRet (P := fun o => o = .rt _) (eOr_bl (a := false) rfl fun _ => eCall_ok (aCons_ok rfl (aCons_ok rfl (aCons_ok (eB_ok rfl rfl rfl) rfl))) rfl h) rfl
theorem isworth_oN {q : Pg} {v : Option Nat} (h : ∀ n, v = some n → n ≤ q.M) : m_is_worth [q.t, oN v] = .ok (.bl true) := by
  cases v with
  | none => exact isworth_non q
  | some n =>
    have e := isworth_int q (n : Nat)
    have h1 := h n rfl
    rw [decide_eq_true (by omega : (0 : Int) ≤ (n : Nat)), decide_eq_true (by omega : ((n : Nat) : Int) ≤ (q.M : Nat))] at e
    exact e
/-- all(f(x) for x in l), each with its own answer -/
def bOf : Res T → Bool
  | .ok (.bl b) => b
  | _ => false
theorem allF {fi : FI} {i : Nat} {is : List Nat} {fe : FE} {ρ : Ev'} {l : List T} {F : T → Res T} (hi : fi ρ = .ok l) (hl : l.length ≤ 99999) (he : ∀ t, fe ((wipeE ρ is).set i (.sh t)) = F t) (h : ∀ t ∈ l, ∃ b, F t = .ok (.bl b)) :
    eU gAll (eComp fi (.nm i) is (eC (.bl true)) fe) ρ = .ok (.bl (l.all fun t => bOf (F t))) :=
  eAll_comp (f := fun t => bOf (F t)) hi hl fun t m => by
    obtain ⟨b, e⟩ := h t m
    rw [he, e]
    rfl
theorem rule_by {p q : Pg} {x : T} {ns : List T} {c : Bool} (hx : m_whole [x, .int 0, .int ((p.B : Nat) - 1)] = .ok (.bl c)) (hl : ns.length ≤ 99999) (hn : ∀ t ∈ ns, ∃ b, m_is_worth [q.t, t] = .ok (.bl b)) :
    m_is_rule [p.t, q.t, .tup [.str "by", x, .tup ns]] = .ok (.bl (c && (decide (ns.length = p.M + 1) && ns.all fun t => bOf (m_is_worth [q.t, t])))) := by
  refine fDef_rt ?_
  show b_is_rule [.sh p.t, .sh q.t, .sh (.tup [.str "by", x, .tup ns]), .un, .un, .un, .un, .un, .un] = _
  have hal : ∀ ρ', eU gAll (eComp (iIt (eV 7)) (.nm 8) [8] (eC (.bl true)) (eCall 2 m_is_worth (aCons (eV 1) (aCons (eV 8) aNil)))) [.sh p.t, .sh q.t, .sh (.tup [.str "by", x, .tup ns]), .sh (.int p.B), .sh (.int p.M), .sh (.str "by"), .sh x, .sh (.tup ns), ρ'] = .ok (.bl (ns.all fun t => bOf (m_is_worth [q.t, t]))) := fun ρ' =>
    allF (F := fun t => m_is_worth [q.t, t]) rfl hl (fun t => eCall_ok (aCons_ok rfl (aCons_ok rfl rfl)) rfl rfl) hn
  unfold b_is_rule
  generalize (ns.all fun t => bOf (m_is_worth [q.t, t])) = A at *
  generalize m_is_worth = F1 at *
  generalize m_whole = F2 at *
  have hnl : gLen (.tup ns) = some (.int (ns.length : Nat)) := rfl
  refine pIfF (P := fun o => o = .rt _) (eOr_bl (a := false) (b := false) rfl fun _ => eOr_bl (a := false) (b := false) (eB_ok rfl rfl (gEq_int _ _)) fun _ => rfl) ?_
  refine pNx (P := fun o => o = .rt _) ?_
  refine pIfF (P := fun o => o = .rt _) (eB_ok (eB_ok rfl rfl (show gIx (.tup [.str "by", x, .tup ns]) (.int 0) = some (.str "by") from rfl)) rfl e_by_is) ?_
  refine pNx (P := fun o => o = .rt _) ?_
  refine pIfF (P := fun o => o = .rt _) (eOr_bl (a := false) (b := false) (eB_ok (eB_ok rfl rfl (show gIx (.tup [.str "by", x, .tup ns]) (.int 0) = some (.str "by") from rfl)) rfl n_by_by) fun _ => eB_ok (eU_ok rfl rfl) rfl (gNe_int _ _)) ?_
  refine pNx (P := fun o => o = .rt _) ?_
  refine pAsg (P := fun o => o = .rt _) (ρ' := [.sh p.t, .sh q.t, .sh (.tup [.str "by", x, .tup ns]), .sh (.int p.B), .sh (.int p.M), .sh (.lst (p.rows.map Rw.t)), .un, .un, .un]) rfl rfl ?_
  refine pAsg (P := fun o => o = .rt _) (ρ' := [.sh p.t, .sh q.t, .sh (.tup [.str "by", x, .tup ns]), .sh (.int p.B), .sh (.int p.M), .sh (.str "by"), .sh x, .sh (.tup ns), .un]) rfl rfl ?_
  have e9 : decide (((ns.length : Nat) : Int) = (p.M : Nat) + 1) = decide (ns.length = p.M + 1) := by
    by_cases z : ns.length = p.M + 1
    · rw [decide_eq_true z, decide_eq_true (by omega)]
    · rw [decide_eq_false z, decide_eq_false (by omega)]
  refine pIfS (P := fun o => o = .rt _) (b := !c || (false || !decide (ns.length = p.M + 1))) (eOr_bl (eNot_bl (eCall_ok (aCons_ok rfl (aCons_ok rfl (aCons_ok (eB_ok rfl rfl rfl) rfl))) rfl hx)) fun _ => eOr_bl (a := false) (eB_ok rfl rfl rfl) fun _ => eB_ok (eU_ok rfl hnl) (eB_ok rfl rfl rfl) (by rw [gNe_int, e9])) (fun z => ?_) (fun z => ?_)
  · refine pRetS (P := fun o => o = .rt _) rfl ?_
    generalize decide (ns.length = p.M + 1) = d at *
    cases c <;> cases d <;> first | rfl | cases z
  · refine pNx (P := fun o => o = .rt _) ?_
    refine pRet (P := fun o => o = .rt _) (hal _) ?_
    generalize decide (ns.length = p.M + 1) = d at *
    cases c <;> cases d <;> first | rfl | cases z
theorem rule_is {p q : Pg} {x : T} {b : Bool} (h : m_is_worth [q.t, x] = .ok (.bl b)) : m_is_rule [p.t, q.t, .tup [.str "is", x]] = .ok (.bl b) := by
  refine fDef_rt ?_
  show b_is_rule [.sh p.t, .sh q.t, .sh (.tup [.str "is", x]), .un, .un, .un, .un, .un, .un] = _
  unfold b_is_rule
  generalize m_is_worth = F1 at *
  generalize m_whole = F2 at *
  refine pIfF (P := fun o => o = .rt _) (eOr_bl (a := false) (b := false) rfl fun _ => eOr_bl (a := false) (b := false) (eB_ok rfl rfl (gEq_int _ _)) fun _ => rfl) ?_
  refine pNx (P := fun o => o = .rt _) ?_
  refine pIfT (P := fun o => o = .rt _) (eB_ok (eB_ok rfl rfl (show gIx (.tup [.str "is", x]) (.int 0) = some (.str "is") from rfl)) rfl e_is_is) ?_
  exact pRetS (P := fun o => o = .rt _) (eAnd_bl (a := true) (eB_ok (eU_ok rfl rfl) rfl (gEq_int _ _)) fun _ => eCall_ok (aCons_ok rfl (aCons_ok (eB_ok rfl rfl (show gIx (.tup [.str "is", x]) (.int 1) = some x from rfl)) rfl)) rfl h) rfl
theorem rule_is_len {p q : Pg} {l : List T} (h : l.length ≠ 1) : m_is_rule [p.t, q.t, .tup (.str "is" :: l)] = .ok (.bl false) := by
  refine fDef_rt ?_
  show b_is_rule [.sh p.t, .sh q.t, .sh (.tup (.str "is" :: l)), .un, .un, .un, .un, .un, .un] = _
  unfold b_is_rule
  generalize m_is_worth = F1 at *
  generalize m_whole = F2 at *
  have g0 : gIx (.tup (.str "is" :: l)) (.int 0) = some (.str "is") := by rw [gIx_tup, atI_0]; rfl
  have n1 : ¬ (((.str "is" :: l : List T).length : Nat) : Int) = 0 := by rw [List.length_cons]; omega
  have n2 : ¬ (((.str "is" :: l : List T).length : Nat) : Int) = 2 := by rw [List.length_cons]; omega
  refine pIfF (P := fun o => o = .rt _) (eOr_bl (a := false) (b := false) rfl fun _ => eOr_bl (a := false) (b := false) (eB_ok (eU_ok rfl rfl) rfl ((gEq_int _ _).trans (by rw [decide_eq_false n1]))) fun _ => eB_ok (eU_ok (eB_ok rfl rfl g0) rfl) rfl rfl) ?_
  refine pNx (P := fun o => o = .rt _) ?_
  refine pIfT (P := fun o => o = .rt _) (eB_ok (eB_ok rfl rfl g0) rfl e_is_is) ?_
  exact pRetS (P := fun o => o = .rt _) (eAnd_bl (a := false) (b := false) (eB_ok (eU_ok rfl rfl) rfl ((gEq_int _ _).trans (by rw [decide_eq_false n2]))) fun z => by cases z) rfl
theorem rule_not {p q : Pg} {t : T} (ht : pln t = true) (hn : ∀ l, t ≠ .tup l) : m_is_rule [p.t, q.t, t] = .ok (.bl false) := by
  refine fDef_rt ?_
  show b_is_rule [.sh p.t, .sh q.t, .sh t, .un, .un, .un, .un, .un, .un] = _
  unfold b_is_rule
  generalize m_is_worth = F1 at *
  generalize m_whole = F2 at *
  have c : (eOr (eB (gTyIs true) (eU gType (eW 2)) (eC (.ty "tuple"))) (eOr (eB gEq (eU gLen (eW 2)) (eC (.int 0))) (eB (gTyIs true) (eU gType (eB gIx (eW 2) (eC (.int 0)))) (eC (.ty "str"))))) [.sh p.t, .sh q.t, .sh t, .un, .un, .un, .un, .un, .un] = .ok (.bl true) := by
    cases t <;> first | (cases ht; done) | (exact absurd rfl (hn _)) | rfl
  refine pIfT (P := fun o => o = .rt _) c ?_
  exact pRetS (P := fun o => o = .rt _) rfl rfl
theorem rule_at {p q : Pg} : m_is_rule [p.t, q.t, .tup [.str "at", .int 0]] = .ok (.bl false) := by
  refine fDef_rt ?_
  show b_is_rule [.sh p.t, .sh q.t, .sh (.tup [.str "at", .int 0]), .un, .un, .un, .un, .un, .un] = _
  unfold b_is_rule
  generalize m_is_worth = F1 at *
  generalize m_whole = F2 at *
  refine pIfF (P := fun o => o = .rt _) (eOr_bl (a := false) (b := false) rfl fun _ => eOr_bl (a := false) (b := false) (eB_ok rfl rfl (gEq_int _ _)) fun _ => rfl) ?_
  refine pNx (P := fun o => o = .rt _) ?_
  refine pIfF (P := fun o => o = .rt _) (eB_ok (eB_ok rfl rfl (show gIx (.tup [.str "at", .int 0]) (.int 0) = some (.str "at") from rfl)) rfl e_at_is) ?_
  refine pNx (P := fun o => o = .rt _) ?_
  refine pIfT (P := fun o => o = .rt _) (eOr_bl (a := true) (b := true) (eB_ok (eB_ok rfl rfl (show gIx (.tup [.str "at", .int 0]) (.int 0) = some (.str "at") from rfl)) rfl n_at_by) fun z => by cases z) ?_
  exact pRetS (P := fun o => o = .rt _) rfl rfl
theorem rule_by_lst {p q : Pg} {x : T} {ns : List T} {c : Bool} (hx : m_whole [x, .int 0, .int ((p.B : Nat) - 1)] = .ok (.bl c)) : m_is_rule [p.t, q.t, .tup [.str "by", x, .lst ns]] = .ok (.bl false) := by
  refine fDef_rt ?_
  show b_is_rule [.sh p.t, .sh q.t, .sh (.tup [.str "by", x, .lst ns]), .un, .un, .un, .un, .un, .un] = _
  unfold b_is_rule
  generalize m_is_worth = F1 at *
  generalize m_whole = F2 at *
  refine pIfF (P := fun o => o = .rt _) (eOr_bl (a := false) (b := false) rfl fun _ => eOr_bl (a := false) (b := false) (eB_ok rfl rfl (gEq_int _ _)) fun _ => rfl) ?_
  refine pNx (P := fun o => o = .rt _) ?_
  refine pIfF (P := fun o => o = .rt _) (eB_ok (eB_ok rfl rfl (show gIx (.tup [.str "by", x, .lst ns]) (.int 0) = some (.str "by") from rfl)) rfl e_by_is) ?_
  refine pNx (P := fun o => o = .rt _) ?_
  refine pIfF (P := fun o => o = .rt _) (eOr_bl (a := false) (b := false) (eB_ok (eB_ok rfl rfl (show gIx (.tup [.str "by", x, .lst ns]) (.int 0) = some (.str "by") from rfl)) rfl n_by_by) fun _ => eB_ok (eU_ok rfl rfl) rfl (gNe_int _ _)) ?_
  refine pNx (P := fun o => o = .rt _) ?_
  refine pAsg (P := fun o => o = .rt _) (ρ' := [.sh p.t, .sh q.t, .sh (.tup [.str "by", x, .lst ns]), .sh (.int p.B), .sh (.int p.M), .sh (.lst (p.rows.map Rw.t)), .un, .un, .un]) rfl rfl ?_
  refine pAsg (P := fun o => o = .rt _) (ρ' := [.sh p.t, .sh q.t, .sh (.tup [.str "by", x, .lst ns]), .sh (.int p.B), .sh (.int p.M), .sh (.str "by"), .sh x, .sh (.lst ns), .un]) rfl rfl ?_
  refine pIfT (P := fun o => o = .rt _) (f := sRet (eC (.bl false))) ((eOr_bl (a := !c) (b := true) (eNot_bl (eCall_ok (aCons_ok rfl (aCons_ok rfl (aCons_ok (eB_ok rfl rfl rfl) rfl))) rfl hx)) fun _ => eOr_bl (a := true) (b := true) (eB_ok rfl rfl rfl) fun z => by cases z).trans (by cases c <;> rfl)) ?_
  exact pRetS (P := fun o => o = .rt _) rfl rfl
theorem is_rule_ok {p q : Pg} {r : Rl} (hp : p.ok) (h : r.ok p q) : m_is_rule [p.t, q.t, r.t] = .ok (.bl true) := by
  cases r with
  | is v => exact rule_is (isworth_oN h)
  | by_ b ns =>
    obtain ⟨h1, h2, h3⟩ := h
    have hw : ∀ t ∈ ns.map oN, m_is_worth [q.t, t] = .ok (.bl true) := fun t m => by
      obtain ⟨v, mv, rfl⟩ := List.mem_map.mp m
      exact isworth_oN fun n e => h3 n (by rw [← e]; exact mv)
    have e := rule_by (p := p) (q := q) (x := .int (b : Nat)) (ns := ns.map oN) (wh_box h1) (by rw [List.length_map]; exact le_big9 (by have := hp.m4; omega)) fun t m => ⟨true, hw t m⟩
    have e1 : ((ns.map oN).all fun t => bOf (m_is_worth [q.t, t])) = true := List.all_eq_true.mpr fun t m => by rw [hw t m]; rfl
    rw [e1, List.length_map, decide_eq_true h2] at e
    exact e
theorem pick_of {α : Type} {P : α → Prop} {L : List α} (h : ∀ t ∈ L, P t) {k : Nat} (hk : k < L.length) : ∃ t, L[k]? = some t ∧ P t := ⟨L[k], List.getElem?_eq_getElem hk, h _ (List.getElem_mem hk)⟩
theorem flat_rep (x : T) (k : Nat) : (List.replicate k [x]).flatten = List.replicate k x := by
  induction k with
  | zero => rfl
  | succ k ih => rw [List.replicate_succ, List.flatten_cons, ih]; rfl
theorem gMul_rep (x : T) {k : Nat} (h : k ≤ 1000) : gMul (.lst [x]) (.int (k : Nat)) = some (.lst (List.replicate k x)) := by
  have h1 : ((k : Nat) : Int) ≤ 100000 := Int.ofNat_le.mpr (le_big h)
  have h2 : 1 * ((k : Nat) : Int).toNat ≤ 100000 := by rw [Int.toNat_natCast, Nat.one_mul]; exact le_big h
  have h3 : (-100000 : Int) ≤ (k : Nat) := by omega
  show (if ((k : Nat) : Int) ≤ 100000 ∧ 1 * ((k : Nat) : Int).toNat ≤ 100000 ∧ (-100000 : Int) ≤ (k : Nat) then some (T.lst (List.replicate ((k : Nat) : Int).toNat [x]).flatten) else none) = _
  rw [if_pos ⟨h1, h2, h3⟩, Int.toNat_natCast, flat_rep]
theorem gAdd_tup {a b : List T} (h : a.length + b.length ≤ 1000) : gAdd (.tup a) (.tup b) = some (.tup (a ++ b)) := by
  show (if a.length + b.length ≤ 100000 then some (T.tup (a ++ b)) else none) = _
  rw [if_pos (le_big h)]
theorem gAdd_lst {a b : List T} (h : a.length + b.length ≤ 1000) : gAdd (.lst a) (.lst b) = some (.lst (a ++ b)) := by
  show (if a.length + b.length ≤ 100000 then some (T.lst (a ++ b)) else none) = _
  rw [if_pos (le_big h)]
/-! ### places -/
theorem place_gen {p q : Pg} {x y : T} {rs : List T} {c d : Bool} (hx : m_whole [x, .int 0, .int ((p.rows.length : Nat) - 1)] = .ok (.bl c)) (hy : m_whole [y, .int 0, .int ((q.rows.length : Nat) - 1)] = .ok (.bl d)) (hl : rs.length ≤ 99999) (hn : ∀ t ∈ rs, ∃ b, m_is_rule [p.t, q.t, t] = .ok (.bl b)) :
    m_is_place [p.t, q.t, .tup [x, y, .tup rs]] = .ok (.bl (c && (d && (decide (rs.length = q.B) && rs.all fun t => bOf (m_is_rule [p.t, q.t, t]))))) := by
  refine fDef_rt ?_
  show b_is_place [.sh p.t, .sh q.t, .sh (.tup [x, y, .tup rs]), .un, .un, .un, .un] = _
  have hal : eU gAll (eComp (iIt (eV 5)) (.nm 6) [6] (eC (.bl true)) (eCall 3 m_is_rule (aCons (eV 0) (aCons (eV 1) (aCons (eV 6) aNil))))) [.sh p.t, .sh q.t, .sh (.tup [x, y, .tup rs]), .sh x, .sh y, .sh (.tup rs), .un] = .ok (.bl (rs.all fun t => bOf (m_is_rule [p.t, q.t, t]))) :=
    allF (F := fun t => m_is_rule [p.t, q.t, t]) rfl hl (fun t => eCall_ok (aCons_ok rfl (aCons_ok rfl (aCons_ok rfl rfl))) rfl rfl) hn
  have p2 : gIx p.t (.int 2) = some (.lst (p.rows.map Rw.t)) := rfl
  have q2 : gIx q.t (.int 2) = some (.lst (q.rows.map Rw.t)) := rfl
  have q0 : gIx q.t (.int 0) = some (.int q.B) := rfl
  have pl : gLen (.lst (p.rows.map Rw.t)) = some (.int (p.rows.length : Nat)) := gLen_map _ _
  have ql : gLen (.lst (q.rows.map Rw.t)) = some (.int (q.rows.length : Nat)) := gLen_map _ _
  have hnl : gLen (.tup rs) = some (.int (rs.length : Nat)) := rfl
  unfold b_is_place
  generalize (rs.all fun t => bOf (m_is_rule [p.t, q.t, t])) = A at *
  generalize m_is_rule = F1 at *
  generalize m_whole = F2 at *
  refine pIfF (P := fun o => o = .rt _) (eOr_bl (a := false) (b := false) rfl fun _ => eB_ok (eU_ok rfl rfl) rfl (gNe_int _ _)) ?_
  refine pNx (P := fun o => o = .rt _) ?_
  refine pAsg (P := fun o => o = .rt _) (ρ' := [.sh p.t, .sh q.t, .sh (.tup [x, y, .tup rs]), .sh x, .sh y, .sh (.tup rs), .un]) rfl rfl ?_
  refine pIfS (P := fun o => o = .rt _) (b := !c || !d) (eOr_bl (eNot_bl (eCall_ok (aCons_ok rfl (aCons_ok rfl (aCons_ok (eB_ok (eU_ok (eB_ok rfl rfl p2) pl) rfl rfl) rfl))) rfl hx)) fun _ => eNot_bl (eCall_ok (aCons_ok rfl (aCons_ok rfl (aCons_ok (eB_ok (eU_ok (eB_ok rfl rfl q2) ql) rfl rfl) rfl))) rfl hy)) (fun z => ?_) (fun z => ?_)
  · refine pRetS (P := fun o => o = .rt _) rfl ?_
    cases c <;> cases d <;> first | rfl | cases z
  · have hc : c = true := by cases c; cases z; rfl
    have hd : d = true := by subst hc; cases d; cases z; rfl
    subst hc
    subst hd
    refine pNx (P := fun o => o = .rt _) ?_
    have e9 : decide (((rs.length : Nat) : Int) = (q.B : Nat)) = decide (rs.length = q.B) := by
      by_cases z : rs.length = q.B
      · rw [decide_eq_true z, decide_eq_true (by omega)]
      · rw [decide_eq_false z, decide_eq_false (by omega)]
    refine pIfS (P := fun o => o = .rt _) (b := false || !decide (rs.length = q.B)) (eOr_bl rfl fun _ => eB_ok (eU_ok rfl hnl) (eB_ok rfl rfl q0) (by rw [gNe_int, e9])) (fun z => ?_) (fun z => ?_)
    · refine pRetS (P := fun o => o = .rt _) rfl ?_
      generalize decide (rs.length = q.B) = d at *
      cases d <;> first | rfl | cases z
    · refine pNx (P := fun o => o = .rt _) ?_
      refine pRet (P := fun o => o = .rt _) hal ?_
      generalize decide (rs.length = q.B) = d at *
      cases d <;> first | rfl | cases z
theorem place_lst {p q : Pg} {x y : T} {rs : List T} {c d : Bool} (hx : m_whole [x, .int 0, .int ((p.rows.length : Nat) - 1)] = .ok (.bl c)) (hy : m_whole [y, .int 0, .int ((q.rows.length : Nat) - 1)] = .ok (.bl d)) : m_is_place [p.t, q.t, .tup [x, y, .lst rs]] = .ok (.bl false) := by
  refine fDef_rt ?_
  show b_is_place [.sh p.t, .sh q.t, .sh (.tup [x, y, .lst rs]), .un, .un, .un, .un] = _
  have p2 : gIx p.t (.int 2) = some (.lst (p.rows.map Rw.t)) := rfl
  have q2 : gIx q.t (.int 2) = some (.lst (q.rows.map Rw.t)) := rfl
  have q0 : gIx q.t (.int 0) = some (.int q.B) := rfl
  have pl : gLen (.lst (p.rows.map Rw.t)) = some (.int (p.rows.length : Nat)) := gLen_map _ _
  have ql : gLen (.lst (q.rows.map Rw.t)) = some (.int (q.rows.length : Nat)) := gLen_map _ _
  unfold b_is_place
  generalize m_is_rule = F1 at *
  generalize m_whole = F2 at *
  refine pIfF (P := fun o => o = .rt _) (eOr_bl (a := false) (b := false) rfl fun _ => eB_ok (eU_ok rfl rfl) rfl (gNe_int _ _)) ?_
  refine pNx (P := fun o => o = .rt _) ?_
  refine pAsg (P := fun o => o = .rt _) (ρ' := [.sh p.t, .sh q.t, .sh (.tup [x, y, .lst rs]), .sh x, .sh y, .sh (.lst rs), .un]) rfl rfl ?_
  refine pIfS (P := fun o => o = .rt _) (b := !c || !d) (eOr_bl (eNot_bl (eCall_ok (aCons_ok rfl (aCons_ok rfl (aCons_ok (eB_ok (eU_ok (eB_ok rfl rfl p2) pl) rfl rfl) rfl))) rfl hx)) fun _ => eNot_bl (eCall_ok (aCons_ok rfl (aCons_ok rfl (aCons_ok (eB_ok (eU_ok (eB_ok rfl rfl q2) ql) rfl rfl) rfl))) rfl hy)) (fun z => ?_) (fun z => ?_)
  · exact pRetS (P := fun o => o = .rt _) rfl rfl
  · refine pNx (P := fun o => o = .rt _) ?_
    refine pIfT (P := fun o => o = .rt _) (eOr_bl (a := true) (b := true) rfl fun z => by cases z) ?_
    exact pRetS (P := fun o => o = .rt _) rfl rfl
theorem place_not {p q : Pg} {t : T} (ht : pln t = true) (hn : ∀ l, t ≠ .tup l) : m_is_place [p.t, q.t, t] = .ok (.bl false) := by
  refine fDef_rt ?_
  show b_is_place [.sh p.t, .sh q.t, .sh t, .un, .un, .un, .un] = _
  unfold b_is_place
  have c : (eOr (eB (gTyIs true) (eU gType (eW 2)) (eC (.ty "tuple"))) (eB gNe (eU gLen (eW 2)) (eC (.int 3)))) [.sh p.t, .sh q.t, .sh t, .un, .un, .un, .un] = .ok (.bl true) := by
    cases t <;> first | (cases ht; done) | (exact absurd rfl (hn _)) | rfl
  refine pIfT (P := fun o => o = .rt _) c ?_
  exact pRetS (P := fun o => o = .rt _) rfl rfl
theorem place_len {p q : Pg} {l : List T} (h : l.length ≠ 3) : m_is_place [p.t, q.t, .tup l] = .ok (.bl false) := by
  refine fDef_rt ?_
  show b_is_place [.sh p.t, .sh q.t, .sh (.tup l), .un, .un, .un, .un] = _
  unfold b_is_place
  have n : ¬ ((l.length : Nat) : Int) = 3 := by omega
  have hnl : gLen (.tup l) = some (.int (l.length : Nat)) := rfl
  refine pIfT (P := fun o => o = .rt _) (eOr_bl (a := false) (b := true) rfl fun _ => eB_ok (eU_ok rfl hnl) rfl (by rw [gNe_int, decide_eq_false n]; rfl)) ?_
  exact pRetS (P := fun o => o = .rt _) rfl rfl
theorem wh_in {n N : Nat} (h : n < N) : m_whole [.int (n : Nat), .int 0, .int ((N : Nat) - 1)] = .ok (.bl true) := by
  rw [whole_eq _ _ _ rfl]
  simp only [wh]
  rw [decide_eq_true (by omega : (0 : Int) ≤ (n : Nat)), decide_eq_true (by omega : ((n : Nat) : Int) ≤ (N : Nat) - 1)]
  rfl
theorem is_place_ok {p q : Pg} {x : Pl} (hp : p.ok) (hq : q.ok) (h : x.ok p q) : m_is_place [p.t, q.t, x.t] = .ok (.bl true) := by
  have hr : ∀ t ∈ x.rules.map Rl.t, m_is_rule [p.t, q.t, t] = .ok (.bl true) := fun t m => by
    obtain ⟨r, mr, rfl⟩ := List.mem_map.mp m
    exact is_rule_ok hp (h.rules.ok r mr)
  have e := place_gen (p := p) (q := q) (x := .int (x.row : Nat)) (y := .int (x.other : Nat)) (rs := x.rules.map Rl.t) (wh_in h.row) (wh_in h.other) (by rw [List.length_map, h.rules.len]; exact le_big9 (by have := hq.b3; omega)) fun t m => ⟨true, hr t m⟩
  have e1 : ((x.rules.map Rl.t).all fun t => bOf (m_is_rule [p.t, q.t, t])) = true := List.all_eq_true.mpr fun t m => by rw [hr t m]; rfl
  rw [e1, List.length_map, decide_eq_true h.rules.len] at e
  exact e
/-! ### odd places -/
def is0 : T := .tup [.str "is", .int 0]
def rls (q : Pg) : List T := List.replicate q.B is0
theorem rls_len (q : Pg) : (rls q).length = q.B := List.length_replicate ..
theorem is0_ok (p q : Pg) : m_is_rule [p.t, q.t, is0] = .ok (.bl true) := by
  have e := isworth_int q 0
  rw [decide_eq_true (by omega : (0 : Int) ≤ 0), decide_eq_true (by omega : (0 : Int) ≤ (q.M : Nat))] at e
  exact rule_is e
theorem rls_ok (p q : Pg) : ∀ t ∈ rls q, m_is_rule [p.t, q.t, t] = .ok (.bl true) := fun t m => by
  rw [List.eq_of_mem_replicate m]
  exact is0_ok p q
/-! ### all the places -/
theorem places_not {p q : Pg} {t : T} (ht : pln t = true) (hn : ∀ l, t ≠ .lst l) : m_is_places [p.t, q.t, t] = .ok (.bl false) := by
  refine fDef_rt ?_
  show b_is_places [.sh p.t, .sh q.t, .sh t, .un] = _
  unfold b_is_places
  have c : (eOr (eB (gTyIs true) (eU gType (eW 2)) (eC (.ty "list"))) (eB gGt (eU gLen (eW 2)) (eC (.int 20)))) [.sh p.t, .sh q.t, .sh t, .un] = .ok (.bl true) := by
    cases t <;> first | (cases ht; done) | (exact absurd rfl (hn _)) | rfl
  refine pIfT (P := fun o => o = .rt _) c ?_
  exact pRetS (P := fun o => o = .rt _) rfl rfl
theorem c_len {p q : Pg} {l : List T} : (eOr (eB (gTyIs true) (eU gType (eW 2)) (eC (.ty "list"))) (eB gGt (eU gLen (eW 2)) (eC (.int 20)))) [.sh p.t, .sh q.t, .sh (.lst l), .un] = .ok (.bl (decide (20 < l.length))) := by
  have hnl : gLen (.lst l) = some (.int (l.length : Nat)) := rfl
  have e : (decide ((20 : Int) < ((l.length : Nat) : Int))) = decide (20 < l.length) := by
    by_cases z : 20 < l.length
    · rw [decide_eq_true z, decide_eq_true (by omega)]
    · rw [decide_eq_false z, decide_eq_false (by omega)]
  have g : gGt (.int (l.length : Nat)) (.int 20) = some (.bl (decide ((20 : Int) < ((l.length : Nat) : Int)))) := rfl
  rw [e] at g
  exact (eOr_bl (a := false) (b := decide (20 < l.length)) rfl fun _ => eB_ok (eU_ok rfl hnl) rfl g).trans (by rw [Bool.false_or])
theorem places_long {p q : Pg} {l : List T} (h : 20 < l.length) : m_is_places [p.t, q.t, .lst l] = .ok (.bl false) := by
  refine fDef_rt ?_
  show b_is_places [.sh p.t, .sh q.t, .sh (.lst l), .un] = _
  unfold b_is_places
  refine pIfT (P := fun o => o = .rt _) (c_len.trans (by rw [decide_eq_true h])) ?_
  exact pRetS (P := fun o => o = .rt _) rfl rfl
theorem c_all {p q : Pg} {l : List T} (hl : l.length ≤ 20) (hn : ∀ t ∈ l, ∃ b, m_is_place [p.t, q.t, t] = .ok (.bl b)) : eU gAll (eComp (iIt (eV 2)) (.nm 3) [3] (eC (.bl true)) (eCall 3 m_is_place (aCons (eV 0) (aCons (eV 1) (aCons (eV 3) aNil))))) [.sh p.t, .sh q.t, .sh (.lst l), .un] = .ok (.bl (l.all fun t => bOf (m_is_place [p.t, q.t, t]))) :=
  allF (F := fun t => m_is_place [p.t, q.t, t]) rfl (le_big9 (by omega)) (fun t => eCall_ok (aCons_ok rfl (aCons_ok rfl (aCons_ok rfl rfl))) rfl rfl) hn
theorem places_odd {p q : Pg} {l : List T} (hn : ∀ t ∈ l, ∃ b, m_is_place [p.t, q.t, t] = .ok (.bl b)) {x : T} (hx : x ∈ l) (hf : m_is_place [p.t, q.t, x] = .ok (.bl false)) : m_is_places [p.t, q.t, .lst l] = .ok (.bl false) := by
  by_cases h : 20 < l.length
  · exact places_long h
  · have hl : l.length ≤ 20 := by omega
    have e := c_all (p := p) (q := q) hl hn
    have e1 : (l.all fun t => bOf (m_is_place [p.t, q.t, t])) = false := by
      rw [List.all_eq_false]
      exact ⟨x, hx, by rw [hf]; decide⟩
    rw [e1] at e
    refine fDef_rt ?_
    show b_is_places [.sh p.t, .sh q.t, .sh (.lst l), .un] = _
    unfold b_is_places
    refine pIfF (P := fun o => o = .rt _) (c_len.trans (by rw [decide_eq_false h])) ?_
    refine pNx (P := fun o => o = .rt _) ?_
    refine pIfT (P := fun o => o = .rt _) (eNot_bl e) ?_
    exact pRetS (P := fun o => o = .rt _) rfl rfl
theorem ints_map {α : Type} (f : α → Int) (l : List α) : ints? (l.map fun a => T.int (f a)) = some (l.map f) := by
  induction l with
  | nil => rfl
  | cons a l ih =>
    show (ints? (l.map fun a => T.int (f a))).map (f a :: ·) = _
    rw [ih]
    rfl
def rowI (x : Pl) : Int := (x.row : Nat)
theorem places_good {p q : Pg} {L : List Pl} (hp : p.ok) (hq : q.ok) (hl : L.length ≤ 20) (hL : ∀ x ∈ L, x.ok p q) : m_is_places [p.t, q.t, .lst (L.map Pl.t)] = .ok (.bl (decide ((nub (L.map rowI)).length = L.length))) := by
  have hk : ∀ t ∈ L.map Pl.t, m_is_place [p.t, q.t, t] = .ok (.bl true) := fun t m => by
    obtain ⟨x, mx, rfl⟩ := List.mem_map.mp m
    exact is_place_ok hp hq (hL x mx)
  have e := c_all (p := p) (q := q) (l := L.map Pl.t) (by rw [List.length_map]; exact hl) fun t m => ⟨true, hk t m⟩
  have e1 : ((L.map Pl.t).all fun t => bOf (m_is_place [p.t, q.t, t])) = true := List.all_eq_true.mpr fun t m => by rw [hk t m]; rfl
  rw [e1] at e
  refine fDef_rt ?_
  show b_is_places [.sh p.t, .sh q.t, .sh (.lst (L.map Pl.t)), .un] = _
  have es : (eSetLen (iIt (eV 2)) (.nm 3) [3] (eC (.bl true)) (eB gIx (eW 3) (eC (.int 0)))) [.sh p.t, .sh q.t, .sh (.lst (L.map Pl.t)), .un] = .ok (.int ((nub (L.map rowI)).length : Nat)) := by
    have ec := compF_filter (i := 3) (fc := eC (.bl true)) (fe := eB gIx (eW 3) (eC (.int 0))) (ρ := wipeE [.sh p.t, .sh q.t, .sh (.lst (L.map Pl.t)), .un] [3]) (u := Pl.t) (f := fun x => .int (rowI x)) (p := fun _ => true) (l := L) fun x m => ⟨rfl, fun _ => rfl⟩
    unfold eSetLen
    show (Res.bind (compF (.nm 3) (eC (.bl true)) (eB gIx (eW 3) (eC (.int 0))) (L.map Pl.t) (wipeE [.sh p.t, .sh q.t, .sh (.lst (L.map Pl.t)), .un] [3])) fun ts => match ints? ts with | some ks => if ts.length ≤ 1000 then Res.ok (T.int (nub ks).length) else .bad | none => .bad) = _
    rw [ec, List.filter_eq_self.mpr fun _ _ => rfl]
    show (match ints? (L.map fun x => T.int (rowI x)) with | some ks => if (L.map fun x => T.int (rowI x)).length ≤ 1000 then Res.ok (T.int (nub ks).length) else .bad | none => .bad) = _
    rw [ints_map]
    show (if (L.map fun x => T.int (rowI x)).length ≤ 1000 then Res.ok (T.int (nub (L.map rowI)).length) else .bad) = _
    rw [if_pos (by rw [List.length_map]; omega)]
  unfold b_is_places
  refine pIfF (P := fun o => o = .rt _) (c_len.trans (by rw [List.length_map, decide_eq_false (by omega)])) ?_
  refine pNx (P := fun o => o = .rt _) ?_
  refine pIfF (P := fun o => o = .rt _) (eNot_bl e) ?_
  refine pNx (P := fun o => o = .rt _) ?_
  refine pRet (P := fun o => o = .rt _) (eB_ok es (eU_ok rfl (gLen_map _ _)) (gEq_int _ _)) ?_
  have e9 : decide ((((nub (L.map rowI)).length : Nat) : Int) = (L.length : Nat)) = decide ((nub (L.map rowI)).length = L.length) := by
    by_cases z : (nub (L.map rowI)).length = L.length
    · rw [decide_eq_true z, decide_eq_true (by omega)]
    · rw [decide_eq_false z, decide_eq_false (by omega)]
  rw [e9]
theorem nub_le (ks : List Int) : (nub ks).length ≤ ks.length := by
  have h : ∀ (l a : List Int), (l.foldl (fun a k => if k ∈ a then a else a ++ [k]) a).length ≤ a.length + l.length := by
    intro l
    induction l with
    | nil => intro a; exact Nat.le_refl _
    | cons k l ih =>
      intro a
      rw [List.foldl_cons]
      refine Nat.le_trans (ih _) ?_
      split
      · rw [List.length_cons]; omega
      · rw [List.length_append, List.length_cons]; show a.length + 1 + l.length ≤ a.length + (l.length + 1); omega
  have := h ks []
  rw [List.length_nil, Nat.zero_add] at this
  exact this
theorem nub_nodup {ks : List Int} (h : ks.Nodup) : nub ks = ks := by
  have g : ∀ (l a : List Int), (a ++ l).Nodup → l.foldl (fun a k => if k ∈ a then a else a ++ [k]) a = a ++ l := by
    intro l
    induction l with
    | nil => intro a _; rw [List.append_nil]; rfl
    | cons k l ih =>
      intro a h
      rw [List.foldl_cons, if_neg, ih (a ++ [k]) (by rw [List.append_assoc]; exact h), List.append_assoc]
      · rfl
      · intro m
        exact (List.nodup_append.mp h).2.2 k m k List.mem_cons_self rfl
  exact g ks [] h
theorem row_ints {ps : List Pl} (h : (ps.map Pl.row).Nodup) : (ps.map rowI).Nodup := by
  have e : (ps.map rowI) = (ps.map Pl.row).map fun n => ((n : Nat) : Int) := by rw [List.map_map]; rfl
  rw [e]
  exact List.Pairwise.map _ (fun a b h q => h (by omega)) h
theorem is_places_ok {p q : Pg} {ps : List Pl} (hp : p.ok) (hq : q.ok) (h : Pls p q ps) : m_is_places [p.t, q.t, .lst (ps.map Pl.t)] = .ok (.bl true) := by
  rw [places_good hp hq (by have := h.len; have := hp.n20; omega) h.ok, nub_nodup (row_ints h.nd), List.length_map, decide_eq_true rfl]
def pl0 (q : Pg) : Pl := ⟨0, 0, List.replicate q.B (.is (some 0))⟩
theorem pl0_ok {p q : Pg} (hp : p.ok) (hq : q.ok) : (pl0 q).ok p q :=
  ⟨hp.n1, hq.n1, ⟨List.length_replicate .., fun r m => by rw [List.eq_of_mem_replicate m]; exact fun n e => by cases e; exact Nat.zero_le _⟩⟩
theorem pl0_t (q : Pg) : (pl0 q).t = .tup [.int 0, .int 0, .tup (rls q)] := by
  have e : (List.replicate q.B (Rl.is (some 0))).map Rl.t = rls q := by rw [List.map_replicate]; rfl
  show T.tup [.int 0, .int 0, .tup ((List.replicate q.B (Rl.is (some 0))).map Rl.t)] = _
  rw [e]
theorem places_twice {p q : Pg} {ps : List Pl} (hp : p.ok) (hq : q.ok) (h : Pls p q ps) : m_is_places [p.t, q.t, .lst ((ps ++ [pl0 q, pl0 q]).map Pl.t)] = .ok (.bl false) := by
  by_cases hl : 20 < (ps ++ [pl0 q, pl0 q]).length
  · exact places_long (by rw [List.length_map]; exact hl)
  · rw [places_good hp hq (by omega) fun x m => by
      rcases List.mem_append.mp m with m | m
      · exact h.ok x m
      · simp only [List.mem_cons, List.not_mem_nil, or_false, or_self] at m
        rw [m]
        exact pl0_ok hp hq]
    rw [decide_eq_false]
    intro e
    have e1 : (ps ++ [pl0 q, pl0 q]).map rowI = (ps.map rowI ++ [0]) ++ [0] := by rw [List.map_append, List.append_assoc]; rfl
    rw [e1, nub_snoc, if_pos ((mem_nub _ _).mpr (by simp))] at e
    have := nub_le (ps.map rowI ++ [0])
    rw [List.length_append, List.length_map] at this
    rw [List.length_append] at e
    have e : (nub (ps.map rowI ++ [0])).length = ps.length + 2 := e
    have this : (nub (ps.map rowI ++ [0])).length ≤ ps.length + 1 := this
    omega
theorem need_places_ok {p q : Pg} {ps : List Pl} (hp : p.ok) (hq : q.ok) (h : Pls p q ps) : m_need_places [p.t, q.t, .lst (ps.map Pl.t)] = .ok (.lst (ps.map Pl.t)) := by
  have h1 := need_program_ok hp
  have h2 := need_program_ok hq
  have h3 := is_places_ok hp hq h
  refine defN_rt ?_
  show b_need_places [.sh p.t, .sh q.t, .sh (.lst (ps.map Pl.t))] = _
  unfold b_need_places
  generalize m_need_program = F1 at *
  generalize m_is_places = F2 at *
  refine pExp (P := fun o => o = .rt _) (eCall_ok (aCons_ok rfl rfl) rfl h1) ?_
  refine pExp (P := fun o => o = .rt _) (eCall_ok (aCons_ok rfl rfl) rfl h2) ?_
  refine pIfF (P := fun o => o = .rt _) (eNot_bl (eCall_ok (aCons_ok rfl (aCons_ok rfl (aCons_ok rfl rfl))) rfl h3)) ?_
  refine pNx (P := fun o => o = .rt _) ?_
  exact pRet (P := fun o => o = .rt _) (eU_ok rfl rfl) rfl
theorem need_places_no {p q : Pg} {t : T} (hp : p.ok) (hq : q.ok) (h : m_is_places [p.t, q.t, t] = .ok (.bl false)) : m_need_places [p.t, q.t, t] = .ex "BadPlaces" [] := by
  have h1 := need_program_ok hp
  have h2 := need_program_ok hq
  refine defN_ex (ρ := [.sh p.t, .sh q.t, .sh t]) ?_
  show b_need_places [.sh p.t, .sh q.t, .sh t] = _
  unfold b_need_places
  generalize m_need_program = F1 at *
  generalize m_is_places = F2 at *
  refine pExp (P := fun o => o = .ex _ _ _) (eCall_ok (aCons_ok rfl rfl) rfl h1) ?_
  refine pExp (P := fun o => o = .ex _ _ _) (eCall_ok (aCons_ok rfl rfl) rfl h2) ?_
  have cn : (eNot (eCall 3 F2 (aCons (eV 0) (aCons (eV 1) (aCons (eV 2) aNil))))) [.sh p.t, .sh q.t, .sh t] = .ok (.bl true) := eNot_bl (a := false) (eCall_ok (aCons_ok rfl (aCons_ok rfl (aCons_ok rfl rfl))) rfl h)
  unfold sSeq
  rw [sIf_t cn]
  rfl
theorem okRl (n : Nat) (r : Rl) : okD (n + 2) r.t = true := by
  cases r with
  | is v =>
    have e : okD (n + 1) (oN v) = true := by
      cases v with
      | none => exact okD_non _
      | some k => exact okD_int _ _
    have e2 : okD (n + 1) (.str "is") = true := by rw [okD_str]; decide +kernel
    show okD (n + 2) (.tup [.str "is", oN v]) = true
    rw [okD_tup, okDs_cons, okDs_cons, okDs_nil, e, e2]
    rfl
  | by_ b ns =>
    have e2 : okD (n + 1) (.str "by") = true := by rw [okD_str]; decide +kernel
    show okD (n + 2) (.tup [.str "by", .int b, .tup (ns.map oN)]) = true
    rw [okD_tup, okDs_cons, okDs_cons, okDs_cons, okDs_nil, e2, okD_int, okD_tup, okON]
    rfl
theorem ok_rules (n : Nat) (rs : List Rl) : okDs (n + 2) (rs.map Rl.t) = true := by
  induction rs with
  | nil => exact okDs_nil _
  | cons r rs ih => rw [List.map_cons, okDs_cons, okRl, ih]; rfl
theorem ok_places (n : Nat) (ps : List Pl) : okDs (n + 4) (ps.map Pl.t) = true := by
  induction ps with
  | nil => exact okDs_nil _
  | cons x ps ih =>
    rw [List.map_cons, okDs_cons, ih]
    show (okD (n + 4) (.tup [.int x.row, .int x.other, .tup (x.rules.map Rl.t)]) && true) = true
    rw [okD_tup, okDs_cons, okDs_cons, okDs_cons, okDs_nil, okD_int, okD_int, okD_tup, ok_rules]
    rfl
theorem ok_plL (n : Nat) (ps : List Pl) : okD (n + 5) (.lst (ps.map Pl.t)) = true := by rw [okD_lst, ok_places]
end K11

namespace K11
open PySem PySem.Spec PyProof.Rows L2 Evl VS
/-! ### begins -/
def begL (M : Nat) : Nat → List (List Nat)
  | 0 => [[]]
  | n + 1 => (begL M n).flatMap fun l => (List.range (M + 1)).map fun k => l ++ [k]
theorem begL_len (M : Nat) : ∀ n, (begL M n).length = (M + 1) ^ n
  | 0 => rfl
  | n + 1 => by
    show ((begL M n).flatMap _).length = _
    rw [List.length_flatMap]
    simp only [List.length_map, List.length_range]
    rw [List.map_const', List.sum_replicate_nat, begL_len M n, Nat.pow_succ]
theorem begL_mem {M : Nat} : ∀ {n : Nat} {l : List Nat}, l ∈ begL M n ↔ l.length = n ∧ ∀ k ∈ l, k ≤ M
  | 0, l => by
    show l ∈ [[]] ↔ _
    rw [List.mem_singleton]
    constructor
    · rintro rfl; exact ⟨rfl, fun k m => by cases m⟩
    · rintro ⟨h, _⟩; exact List.eq_nil_of_length_eq_zero h
  | n + 1, l => by
    show l ∈ (begL M n).flatMap _ ↔ _
    rw [List.mem_flatMap]
    constructor
    · rintro ⟨a, ha, hl⟩
      obtain ⟨k, hk, rfl⟩ := List.mem_map.mp hl
      obtain ⟨h1, h2⟩ := begL_mem.mp ha
      refine ⟨by rw [List.length_append, h1]; rfl, fun x m => ?_⟩
      rcases List.mem_append.mp m with m | m
      · exact h2 x m
      · rw [List.mem_singleton.mp m]; have := List.mem_range.mp hk; omega
    · rintro ⟨h1, h2⟩
      have hne : l ≠ [] := fun z => by rw [z] at h1; cases h1
      refine ⟨l.dropLast, begL_mem.mpr ⟨by rw [List.length_dropLast]; omega, fun k m => h2 k ((List.dropLast_sublist l).subset m)⟩, List.mem_map.mpr ⟨l.getLast hne, List.mem_range.mpr ?_, List.dropLast_concat_getLast hne⟩⟩
      have := h2 _ (List.getLast_mem hne)
      omega
theorem begL_125 {p : Pg} (h : p.ok) {n : Nat} (hn : n ≤ p.B) : (begL p.M n).length ≤ 125 := by
  rw [begL_len]
  have h1 : (p.M + 1) ^ n ≤ 5 ^ n := Nat.pow_le_pow_left (by have := h.m4; omega) n
  have h2 : 5 ^ n ≤ 5 ^ 3 := Nat.pow_le_pow_right (by decide) (by have := h.b3; omega)
  exact Nat.le_trans h1 (Nat.le_trans h2 (by decide))
theorem flatL_map {α : Type} (l : List α) (f : α → List T) : flatL (l.map fun a => T.lst (f a)) = l.flatMap f := by
  unfold flatL
  rw [List.flatMap_map]
theorem eComp2_ok {α β : Type} {i j : Nat} {vs vs1 : List Nat} {fi fi1 : FI} {fe : FE} {ρ : Ev'} {u : α → T} {w : β → T} {f : α → β → T} {l : List α} {L : List β} (hi : fi ρ = .ok (l.map u)) (hl : l.length ≤ 1000) (hL : L.length ≤ 1000) (hn : (l.flatMap fun a => L.map (f a)).length ≤ 1000)
    (h : ∀ a ∈ l, fi1 ((wipeE ρ vs).set i (.sh (u a))) = .ok (L.map w) ∧ ∀ b ∈ L, fe ((wipeE ((wipeE ρ vs).set i (.sh (u a))) vs1).set j (.sh (w b))) = .ok (f a b)) :
    eComp2 fi (.nm i) vs fi1 (.nm j) vs1 fe ρ = .ok (.lst (l.flatMap fun a => L.map (f a))) := by
  have e1 : compF (.nm i) (eC (.bl true)) (eIn fi1 (.nm j) vs1 fe) (l.map u) (wipeE ρ vs) = .ok (l.map fun a => .lst (L.map (f a))) := by
    have z := compF_filter (i := i) (fc := eC (.bl true)) (fe := eIn fi1 (.nm j) vs1 fe) (ρ := wipeE ρ vs) (u := u) (f := fun a => .lst (L.map (f a))) (p := fun _ => true) (l := l) fun a m => ⟨rfl, fun _ => by
      obtain ⟨h1, h2⟩ := h a m
      have z := compF_filter (i := j) (fc := eC (.bl true)) (fe := fe) (ρ := wipeE ((wipeE ρ vs).set i (.sh (u a))) vs1) (u := w) (f := f a) (p := fun _ => true) (l := L) fun b mb => ⟨rfl, fun _ => h2 b mb⟩
      rw [List.filter_eq_self.mpr fun _ _ => rfl] at z
      unfold eIn
      rw [h1]
      show (Res.bind (compF (.nm j) (eC (.bl true)) fe (L.map w) (wipeE ((wipeE ρ vs).set i (.sh (u a))) vs1)) fun ts => if ts.length ≤ 99999 then Res.ok (T.lst ts) else .bad) = _
      rw [z]
      show (if (L.map (f a)).length ≤ 99999 then Res.ok (T.lst (L.map (f a))) else .bad) = _
      rw [if_pos (by rw [List.length_map]; exact le_big9 hL)]⟩
    rw [List.filter_eq_self.mpr fun _ _ => rfl] at z
    exact z
  unfold eComp2
  rw [hi]
  show (Res.bind (compF (.nm i) (eC (.bl true)) (eIn fi1 (.nm j) vs1 fe) (l.map u) (wipeE ρ vs)) fun ts => if ts.length ≤ 99999 ∧ (flatL ts).length ≤ 99999 then Res.ok (T.lst (flatL ts)) else .bad) = _
  rw [e1]
  show (if (l.map fun a => T.lst (L.map (f a))).length ≤ 99999 ∧ (flatL (l.map fun a => T.lst (L.map (f a)))).length ≤ 99999 then Res.ok (T.lst (flatL (l.map fun a => T.lst (L.map (f a))))) else .bad) = _
  rw [flatL_map, if_pos ⟨by rw [List.length_map]; exact le_big9 hl, le_big9 hn⟩]
theorem begL_next (M n : Nat) : (begL M (n + 1)).map numsT = (begL M n).flatMap fun l => (List.range (M + 1)).map fun k => T.tup (l.map (fun n => T.int (n : Nat)) ++ [.int (k : Nat)]) := by
  show ((begL M n).flatMap fun l => (List.range (M + 1)).map fun k => l ++ [k]).map numsT = _
  rw [List.map_flatMap]
  congr 1
  funext l
  rw [List.map_map]
  congr 1
  funext k
  show T.tup ((l ++ [k]).map fun n => T.int (n : Nat)) = _
  rw [List.map_append]
  rfl
theorem begins_ok {p : Pg} (h : p.ok) : m_begins [p.t] = .ok (.lst ((begL p.M p.B).map numsT)) := by
  have h1 := need_program_ok h
  refine defN_rt ?_
  show b_begins [.sh p.t, .un, .un, .un, .un, .un, .un] = _
  unfold b_begins
  generalize m_need_program = F at *
  have hb3 := h.b3
  have hm4 := h.m4
  refine pAsg (P := fun o => o = .rt _) (ρ' := [.sh p.t, .sh (.int p.B), .sh (.int p.M), .sh (.lst (p.rows.map Rw.t)), .un, .un, .un]) (eCall_ok (aCons_ok rfl rfl) rfl h1) rfl ?_
  refine pNew (P := fun o => o = .rt _) (eLst_ok (aCons_ok (eTup_ok rfl (by show 0 ≤ 1000; decide)) rfl) (by show 1 ≤ 1000; decide)) ?_
  simp only [List.set_cons_succ, List.set_cons_zero]
  refine pForR (P := fun o => o = .rt _) (N := p.B) (fun k ρ => ∃ x3 x5 x6, ρ = [.sh p.t, .sh (.int p.B), .sh (.int p.M), x3, .ow (.lst ((begL p.M k).map numsT)), x5, x6]) (iRg_ok rfl (by omega)) ⟨_, _, _, rfl⟩ ?_ ?_
  · rintro k hk ρ ⟨x3, x5, x6, rfl⟩
    simp only [List.set_cons_succ, List.set_cons_zero]
    have e := eComp2_ok (i := 5) (j := 6) (vs := [5, 6]) (vs1 := [6]) (fi := iIt (eV 4)) (fi1 := iRg (eB gAdd (eW 2) (eC (.int 1)))) (fe := eB gAdd (eW 5) (eTup (aCons (eV 6) aNil))) (ρ := [.sh p.t, .sh (.int p.B), .sh (.int p.M), .sh (.int (k : Nat)), .sh (.lst ((begL p.M k).map numsT)), x5, x6]) (u := numsT) (w := fun k : Nat => T.int (k : Nat)) (f := fun (l : List Nat) (k : Nat) => T.tup (l.map (fun n => T.int (n : Nat)) ++ [T.int (k : Nat)])) (l := begL p.M k) (L := List.range (p.M + 1))
      (iIt_lst rfl) (by have := begL_125 h (n := k) (by omega); omega) (by rw [List.length_range]; omega) (by rw [← begL_next, List.length_map]; have := begL_125 h (n := k + 1) (by omega); omega) fun a ha => ⟨iRg_ok (n := p.M + 1) (eB_ok rfl rfl rfl) (by omega), fun b hb => eB_ok rfl (eTup_ok (aCons_ok rfl rfl) (by show 1 ≤ 1000; decide)) (gAdd_tup (a := a.map fun n => T.int (n : Nat)) (b := [.int (b : Nat)]) (by
        rw [List.length_map, (begL_mem.mp ha).1]
        show k + 1 ≤ 1000
        omega))⟩
    rw [← begL_next] at e
    refine ⟨[.sh p.t, .sh (.int p.B), .sh (.int p.M), .sh (.int (k : Nat)), .ow (.lst ((begL p.M (k + 1)).map numsT)), x5, x6], ?_, _, _, _, rfl⟩
    show sNew 4 _ [.sh p.t, .sh (.int p.B), .sh (.int p.M), .sh (.int (k : Nat)), .sh (.lst ((begL p.M k).map numsT)), x5, x6] = _
    rw [sNew_ok e]
    rfl
  · rintro ρ ⟨x3, x5, x6, rfl⟩
    rfl
end K11

namespace K11
open PySem PySem.Spec PyProof.Rows L2 Evl VS
/-! ### the word of a state -/
def wl (ps : List Pl) (s : Nat × List Nat) : Option Str := (ps.find? fun x => x.row == s.1).map fun x => if (turnN s.2 x.rules).isNone then "stuck" else "comes"
def RW (p : Pg) (ps : List Pl) : Nat → Option (Nat × List Nat) → Option Str
  | 0, _ => none
  | _ + 1, none => some "over"
  | n + 1, some s => match wl ps s with
    | some w => some w
    | none => RW p ps n (nxt p s)
theorem RW_mono {p : Pg} {ps : List Pl} {w : Str} : ∀ {n : Nat} {o : Option (Nat × List Nat)}, RW p ps n o = some w → RW p ps (n + 1) o = some w
  | 0, _, h => by cases h
  | n + 1, none, h => h
  | n + 1, some s, h => by
    unfold RW at h ⊢
    cases e : wl ps s with
    | some v => rw [e] at h; exact h
    | none => rw [e] at h; exact RW_mono h
theorem RW_add {p : Pg} {ps : List Pl} {w : Str} {n : Nat} {o : Option (Nat × List Nat)} (h : RW p ps n o = some w) : ∀ k, RW p ps (n + k) o = some w
  | 0 => h
  | k + 1 => RW_mono (RW_add h k)
def Wd (p : Pg) (ps : List Pl) (o : Option (Nat × List Nat)) (w : Str) : Prop := (∃ n, RW p ps n o = some w) ∨ (w = "missed" ∧ ∀ n, RW p ps n o = none)
theorem Wd_uniq {p : Pg} {ps : List Pl} {o : Option (Nat × List Nat)} {v w : Str} (h : Wd p ps o v) (k : Wd p ps o w) : v = w := by
  rcases h with ⟨n, h⟩ | ⟨rfl, h⟩
  · rcases k with ⟨m, k⟩ | ⟨rfl, k⟩
    · have a := RW_add h m
      have b := RW_add k n
      rw [Nat.add_comm] at b
      rw [a] at b
      exact Option.some.inj b
    · rw [k n] at h; cases h
  · rcases k with ⟨m, k⟩ | ⟨rfl, k⟩
    · rw [h m] at k; cases k
    · rfl
theorem Wd_over (p : Pg) (ps : List Pl) : Wd p ps none "over" := .inl ⟨1, rfl⟩
theorem Wd_at {p : Pg} {ps : List Pl} {s : Nat × List Nat} {w : Str} (h : wl ps s = some w) : Wd p ps (some s) w := .inl ⟨1, by unfold RW; rw [h]⟩
theorem Wd_next {p : Pg} {ps : List Pl} {s : Nat × List Nat} {w : Str} (h : wl ps s = none) (k : Wd p ps (nxt p s) w) : Wd p ps (some s) w := by
  rcases k with ⟨n, k⟩ | ⟨e, k⟩
  · exact .inl ⟨n + 1, by unfold RW; rw [h]; exact k⟩
  · refine .inr ⟨e, fun n => ?_⟩
    cases n with
    | zero => rfl
    | succ n => unfold RW; rw [h]; exact k n
/-- a closed set without places -/
theorem Wd_closed {p : Pg} {ps : List Pl} {S : Nat × List Nat → Prop} (h : ∀ x, S x → wl ps x = none ∧ ∃ y, S y ∧ nxt p x = some y) : ∀ x, S x → Wd p ps (some x) "missed" := fun x hx => .inr ⟨rfl, fun n => by
  induction n generalizing x with
  | zero => rfl
  | succ n ih =>
    obtain ⟨h1, y, h2, h3⟩ := h x hx
    unfold RW
    rw [h1, h3]
    exact ih y h2⟩
theorem metF_wd {p : Pg} {ps : List Pl} : ∀ (n : Nat) (vis : List (Nat × List Nat)) (o : Option (Nat × List Nat)) (t : T), metF p ps n vis o = some t → (∀ x ∈ vis, wl ps x = none ∧ (nxt p x = o ∨ ∃ y ∈ vis, nxt p x = some y)) → ∃ w z, t = .tup (.str w :: z) ∧ Wd p ps o w
  | 0, _, _, _, e, _ => by cases e
  | n + 1, vis, none, t, e, _ => by
    unfold metF at e
    cases e
    exact ⟨"over", _, rfl, Wd_over p ps⟩
  | n + 1, vis, some s, t, e, hv => by
    unfold metF at e
    by_cases m : s ∈ vis
    · rw [if_pos m] at e
      cases e
      refine ⟨"missed", _, rfl, Wd_closed (S := fun x => x ∈ vis) (fun x hx => ?_) s m⟩
      obtain ⟨h1, h2⟩ := hv x hx
      rcases h2 with h2 | ⟨y, hy, h2⟩
      · exact ⟨h1, s, m, h2⟩
      · exact ⟨h1, y, hy, h2⟩
    · rw [if_neg m] at e
      cases f : ps.find? (fun x => x.row == s.1) with
      | some x =>
        rw [f] at e
        cases e
        exact ⟨_, _, rfl, Wd_at (by unfold wl; rw [f]; rfl)⟩
      | none =>
        rw [f] at e
        have hw : wl ps s = none := by unfold wl; rw [f]; rfl
        obtain ⟨w, z, e1, e2⟩ := metF_wd n (vis ++ [s]) (nxt p s) t e fun x hx => by
          rcases List.mem_append.mp hx with hx | hx
          · obtain ⟨h1, h2⟩ := hv x hx
            refine ⟨h1, ?_⟩
            rcases h2 with h2 | ⟨y, hy, h2⟩
            · exact .inr ⟨s, by simp, h2⟩
            · exact .inr ⟨y, by simp [hy], h2⟩
          · rw [List.mem_singleton.mp hx]
            exact ⟨hw, .inl rfl⟩
        exact ⟨w, z, e1, Wd_next hw e2⟩
theorem metT_wd {p : Pg} {ps : List Pl} (h : p.ok) {s : Nat × List Nat} (hs : St p s.1 s.2) : ∃ w z, metT p ps s = .tup (.str w :: z) ∧ Wd p ps (some s) w :=
  metF_wd 3000 [] (some s) _ (metT_eq h ps hs) fun x m => by cases m
def Good (p : Pg) (ps : List Pl) (o : Option (Nat × List Nat)) : Prop := Wd p ps o "comes" ∨ Wd p ps o "over"
/-- a path: each the one's next, the last one's next is o -/
def Pth (p : Pg) : List (Nat × List Nat) → Option (Nat × List Nat) → Prop
  | [], _ => True
  | [x], o => nxt p x = o
  | x :: y :: r, o => nxt p x = some y ∧ Pth p (y :: r) o
theorem Pth_snoc {p : Pg} : ∀ {l : List (Nat × List Nat)} {s : Nat × List Nat}, Pth p l (some s) → Pth p (l ++ [s]) (nxt p s)
  | [], s, _ => rfl
  | [x], s, h => ⟨h, rfl⟩
  | x :: y :: r, s, h => ⟨h.1, Pth_snoc (l := y :: r) h.2⟩
theorem Pth_next {p : Pg} : ∀ {l : List (Nat × List Nat)} {o : Option (Nat × List Nat)}, Pth p l o → ∀ x ∈ l, nxt p x = o ∨ ∃ y ∈ l, nxt p x = some y
  | [], _, _, x, m => by cases m
  | [a], o, h, x, m => by rw [List.mem_singleton.mp m]; exact .inl h
  | a :: b :: r, o, h, x, m => by
    rcases List.mem_cons.mp m with rfl | m
    · exact .inr ⟨b, by simp, h.1⟩
    · rcases Pth_next (l := b :: r) h.2 x m with q | ⟨y, hy, q⟩
      · exact .inl q
      · exact .inr ⟨y, List.mem_cons_of_mem _ hy, q⟩
/-- back from the end -/
theorem Pth_good {p : Pg} {ps : List Pl} : ∀ {l : List (Nat × List Nat)} {o : Option (Nat × List Nat)}, Pth p l o → (∀ x ∈ l, wl ps x ≠ some "stuck") → Good p ps o → ∀ x ∈ l, Good p ps (some x)
  | [], _, _, _, _, x, m => by cases m
  | a :: r, o, h, hs, hg, x, m => by
    have hr : Good p ps (nxt p a) ∧ ∀ x ∈ r, Good p ps (some x) := by
      cases r with
      | nil => exact ⟨by rw [show nxt p a = o from h]; exact hg, fun x m => by cases m⟩
      | cons b r =>
        have z := Pth_good (l := b :: r) h.2 (fun x m => hs x (List.mem_cons_of_mem _ m)) hg
        exact ⟨by rw [h.1]; exact z b List.mem_cons_self, z⟩
    rcases List.mem_cons.mp m with rfl | m
    · cases e : wl ps x with
      | none =>
        rcases hr.1 with q | q
        · exact .inl (Wd_next e q)
        · exact .inr (Wd_next e q)
      | some w =>
        have hw : w = "comes" := by
          have hn := hs x List.mem_cons_self
          unfold wl at e hn
          cases f : ps.find? (fun y => y.row == x.1) with
          | none => rw [f] at e; cases e
          | some y =>
            rw [f] at e hn
            have e' : (if (turnN x.2 y.rules).isNone = true then ("stuck" : Str) else "comes") = w := Option.some.inj e
            have hn' : (if (turnN x.2 y.rules).isNone = true then ("stuck" : Str) else "comes") ≠ "stuck" := fun z => hn (congrArg some z)
            cases g : (turnN x.2 y.rules).isNone with
            | true => rw [g] at hn'; exact (hn' rfl).elim
            | false => rw [g] at e'; exact e'.symm
        subst hw
        exact .inl (Wd_at e)
    · exact hr.2 x m
end K11

namespace K11
open PySem PySem.Spec PyProof.Rows L2 Evl VS
/-! ### paths -/
def itr (p : Pg) : Nat → Option (Nat × List Nat) → Option (Nat × List Nat)
  | 0, o => o
  | _ + 1, none => none
  | n + 1, some s => itr p n (nxt p s)
theorem itr_none (p : Pg) : ∀ n, itr p n none = none
  | 0 => rfl
  | n + 1 => rfl
theorem Pth_drop {p : Pg} {o : Option (Nat × List Nat)} : ∀ (k : Nat) {l : List (Nat × List Nat)}, Pth p l o → Pth p (l.drop k) o
  | 0, _, h => h
  | k + 1, [], _ => trivial
  | k + 1, [a], _ => by
    rw [List.drop_succ_cons, List.drop_nil]
    trivial
  | k + 1, a :: b :: r, h => Pth_drop k (l := b :: r) h.2
theorem Pth_itr {p : Pg} {o : Option (Nat × List Nat)} : ∀ {l : List (Nat × List Nat)} {a : Nat × List Nat} {r : List (Nat × List Nat)}, l = a :: r → Pth p l o → itr p l.length (some a) = o ∧ ∀ k, k < l.length → itr p k (some a) = l[k]?
  | [], _, _, e, _ => by cases e
  | [x], a, r, e, h => by
    cases e
    refine ⟨h, fun k hk => ?_⟩
    obtain rfl : k = 0 := by simpa using hk
    rfl
  | x :: y :: r', a, r, e, h => by
    cases e
    obtain ⟨h1, h2⟩ := Pth_itr (l := y :: r') rfl h.2
    refine ⟨?_, fun k hk => ?_⟩
    · show itr p (y :: r').length (nxt p x) = o
      rw [h.1]
      exact h1
    · cases k with
      | zero => rfl
      | succ k =>
        show itr p k (nxt p x) = _
        rw [h.1, h2 k (by simpa using hk)]
        rfl
theorem Pth_hit {p : Pg} {ps : List Pl} {o : Option (Nat × List Nat)} : ∀ {l : List (Nat × List Nat)} {a : Nat × List Nat} {r : List (Nat × List Nat)}, l = a :: r → Pth p l o → (∀ x ∈ l, wl ps x = none ∨ wl ps x = some "comes") → (∃ x ∈ l, wl ps x ≠ none) → Good p ps (some a)
  | [], _, _, e, _, _, _ => by cases e
  | [x], a, r, e, h, hs, hx => by
    cases e
    obtain ⟨y, m, hy⟩ := hx
    rw [List.mem_singleton.mp m] at hy
    rcases hs x (by simp) with q | q
    · exact (hy q).elim
    · exact .inl (Wd_at q)
  | x :: y :: r', a, r, e, h, hs, hx => by
    cases e
    rcases hs x (by simp) with q | q
    · obtain ⟨z, m, hz⟩ := hx
      have m' : z ∈ y :: r' := by
        rcases List.mem_cons.mp m with rfl | m
        · exact (hz q).elim
        · exact m
      have g := Pth_hit (l := y :: r') rfl h.2 (fun x m => hs x (List.mem_cons_of_mem _ m)) ⟨z, m', hz⟩
      rw [← h.1] at g
      rcases g with g | g
      · exact .inl (Wd_next q g)
      · exact .inr (Wd_next q g)
    · exact .inl (Wd_at q)
theorem wl_two {ps : List Pl} {x : Nat × List Nat} (h : wl ps x ≠ some "stuck") : wl ps x = none ∨ wl ps x = some "comes" := by
  unfold wl at h ⊢
  cases f : ps.find? (fun y => y.row == x.1) with
  | none => exact .inl rfl
  | some y =>
    rw [f] at h
    cases g : (turnN x.2 y.rules).isNone with
    | true =>
      refine (h ?_).elim
      show some (if (turnN x.2 y.rules).isNone = true then ("stuck" : Str) else "comes") = _
      rw [g]
      rfl
    | false =>
      refine .inr ?_
      show some (if (turnN x.2 y.rules).isNone = true then ("stuck" : Str) else "comes") = _
      rw [g]
      rfl
theorem drop_idx {vis : List (Nat × List Nat)} {s : Nat × List Nat} (m : s ∈ vis) : ∃ r, vis.drop (vis.idxOf s) = s :: r := by
  have hl : vis.idxOf s < vis.length := List.idxOf_lt_length_iff.mpr m
  exact ⟨_, by rw [List.drop_eq_getElem_cons hl, List.getElem_idxOf hl]⟩
/-- back at a state of the path -/
theorem Pth_missed {p : Pg} {ps : List Pl} {vis : List (Nat × List Nat)} {s : Nat × List Nat} (h : Pth p vis (some s)) (m : s ∈ vis) (hn : ∀ x ∈ vis.drop (vis.idxOf s), wl ps x = none) : Wd p ps (some s) "missed" := by
  obtain ⟨r, e⟩ := drop_idx m
  have hp := Pth_drop (vis.idxOf s) h
  refine Wd_closed (S := fun x => x ∈ vis.drop (vis.idxOf s)) (fun x hx => ⟨hn x hx, ?_⟩) s (by rw [e]; simp)
  rcases Pth_next hp x hx with q | ⟨y, hy, q⟩
  · exact ⟨s, by rw [e]; simp, q⟩
  · exact ⟨y, hy, q⟩
theorem Pth_round {p : Pg} {ps : List Pl} {vis : List (Nat × List Nat)} {s : Nat × List Nat} (h : Pth p vis (some s)) (m : s ∈ vis) (hs : ∀ x ∈ vis, wl ps x ≠ some "stuck") (hx : ∃ x ∈ vis.drop (vis.idxOf s), wl ps x ≠ none) : Good p ps (some s) := by
  obtain ⟨r, e⟩ := drop_idx m
  exact Pth_hit e (Pth_drop (vis.idxOf s) h) (fun x m => wl_two (hs x (List.mem_of_mem_drop m))) hx
/-! ### what was found safe -/
structure Fine (p : Pg) (ps : List Pl) (F : List (Nat × List Nat)) : Prop where
  nd : F.Nodup
  st : StA p F
  good : ∀ x ∈ F, Good p ps (some x)
  next : ∀ x ∈ F, ∀ y, nxt p x = some y → y ∈ F
theorem Fine.add {p : Pg} {ps : List Pl} {F vis : List (Nat × List Nat)} {o : Option (Nat × List Nat)} (h : Fine p ps F) (nd : vis.Nodup) (st : StA p vis) (ap : ∀ x ∈ vis, x ∉ F) (hp : Pth p vis o) (hs : ∀ x ∈ vis, wl ps x ≠ some "stuck") (hg : Good p ps o) (ho : ∀ s, o = some s → s ∈ F ∨ s ∈ vis) : Fine p ps (F ++ vis) where
  nd := List.nodup_append.mpr ⟨h.nd, nd, fun a ha b hb e => ap b hb (by rw [← e]; exact ha)⟩
  st := fun x m => by
    rcases List.mem_append.mp m with m | m
    · exact h.st x m
    · exact st x m
  good := fun x m => by
    rcases List.mem_append.mp m with m | m
    · exact h.good x m
    · exact Pth_good hp hs hg x m
  next := fun x m y e => by
    rcases List.mem_append.mp m with m | m
    · exact List.mem_append_left _ (h.next x m y e)
    · rcases Pth_next hp x m with q | ⟨z, hz, q⟩
      · rcases ho y (q.symm.trans e) with w | w
        · exact List.mem_append_left _ w
        · exact List.mem_append_right _ w
      · rw [q] at e
        cases e
        exact List.mem_append_right _ hz
theorem Good_not {p : Pg} {ps : List Pl} {o : Option (Nat × List Nat)} {w : Str} (h : Good p ps o) (k : Wd p ps o w) : w = "comes" ∨ w = "over" := by
  rcases h with h | h
  · exact .inl (Wd_uniq k h)
  · exact .inr (Wd_uniq k h)
/-! ### how many states there are -/
def univ (p : Pg) : List (Nat × List Nat) := (List.range p.rows.length).flatMap fun i => (begL p.M p.B).map fun l => (i, l)
theorem nodup_sub {α : Type} [BEq α] [LawfulBEq α] : ∀ (U l : List α), l.Nodup → (∀ x ∈ l, x ∈ U) → l.length ≤ U.length
  | [], l, _, h => by
    cases l with
    | nil => exact Nat.le_refl _
    | cons a l => cases h a List.mem_cons_self
  | u :: U, l, nd, h => by
    have e := nodup_sub U (l.erase u) (nd.erase u) fun x m => by
      rcases List.mem_cons.mp (h x (List.mem_of_mem_erase m)) with rfl | q
      · exact (nd.not_mem_erase m).elim
      · exact q
    rw [List.length_cons]
    by_cases m : u ∈ l
    · rw [List.length_erase_of_mem m] at e; omega
    · rw [List.erase_of_not_mem m] at e; omega
theorem univ_len (p : Pg) : (univ p).length = p.rows.length * (p.M + 1) ^ p.B := by
  unfold univ
  rw [List.length_flatMap]
  simp only [List.length_map, begL_len]
  rw [List.map_const', List.sum_replicate_nat, List.length_range]
theorem states_le {p : Pg} {vis : List (Nat × List Nat)} (nd : vis.Nodup) (st : StA p vis) : vis.length ≤ p.rows.length * (p.M + 1) ^ p.B := by
  rw [← univ_len]
  refine nodup_sub _ _ nd fun x m => ?_
  obtain ⟨h1, h2, h3⟩ := st x m
  exact List.mem_flatMap.mpr ⟨x.1, List.mem_range.mpr h1, List.mem_map.mpr ⟨x.2, begL_mem.mpr ⟨h2, h3⟩, rfl⟩⟩
end K11

namespace K11
open PySem PySem.Spec PyProof.Rows L2 Evl VS
/-! ### unsafe_run -/
theorem isstuck_ok {p q : Pg} {ps : List Pl} {s : Nat × List Nat} (hq : q.ok) (hps : Pls p q ps) (hs : St p s.1 s.2) : m_is_stuck [byT ps, sT s] = .ok (.bl (wl ps s == some "stuck")) := by
  cases f : ps.find? (fun x => x.row == s.1) with
  | some x =>
    have e := stuck_ok hq hps hs f
    rw [e]
    congr 2
    unfold wl
    rw [f]
    show _ = (some (if (turnN s.2 x.rules).isNone = true then ("stuck" : Str) else "comes") == some "stuck")
    cases (turnN s.2 x.rules).isNone <;> decide +kernel
  | none =>
    have h2 : gDIn false (.int (s.1 : Nat)) (byT ps) = some (.bl false) := by rw [in_byT, any_find, f]; rfl
    have e : (wl ps s == some "stuck") = false := by unfold wl; rw [f]; rfl
    rw [e]
    refine fDef_rt ?_
    show b_is_stuck [.sh (byT ps), .sh (sT s), .un, .un] = _
    unfold b_is_stuck
    generalize m_turned = F at *
    refine pAsg (P := fun o => o = .rt (T.bl false)) (ρ' := [.sh (byT ps), .sh (sT s), .sh (.int (s.1 : Nat)), .sh (numsT s.2)]) rfl rfl ?_
    exact pRet (P := fun o => o = .rt (T.bl false)) (eAnd_bl (a := false) (b := false) (eB_ok rfl rfl h2) fun z => by cases z) rfl
def cU : FE := (eAnd (eB gNotN' (eW 5) (eC .non)) (eAnd (eDtIn true 3 (eV 5)) (eDtIn true 4 (eV 5))))
def bU : FS := (sSeq (sIf (eCall 2 m_is_stuck (aCons (eV 1) (aCons (eV 5) aNil))) (sRetB 3 (eTup (aCons (eC (.str "stuck")) (aCons (eV 2) (aCons (eDtLen 4) aNil))))) sNx)
  (sSeq (sDtPut 4 (eV 5) (eDtLen 4))
  (sAsg (.tp [5, 6]) (eCall 2 m_stepped (aCons (eV 0) (aCons (eV 5) aNil))))))
def eU' : FS := (sSeq (sForD 4 (.nm 8) (sDtPut 3 (eV 8) (eC (.bl true))))
  (sRetB 3 (eC .non)))
def rU : FS := (sSeq (sIf (eDtIn false 4 (eV 5)) (sSeq (sSet 7 (eDtGet 4 (eV 5)))
  (sIf (eNot (eU gAny (eComp (iIt (eSl (eDtKeys 4) (oSome (eV 7)) oNone)) (.nm 8) [8] (eC (.bl true)) (eB (gDIn false) (eB gIx (eW 8) (eC (.int 0))) (eW 1))))) (sRetB 3 (eTup (aCons (eC (.str "missed")) (aCons (eV 2) (aCons (eV 7) aNil))))) sNx)) sNx)
  eU')
def trT (n : Nat) : List T := List.replicate n (.bl true)
def fD (F : List (Nat × List Nat)) : D := .dt (F.map sT) (trT F.length)
def AnsU (p : Pg) (ps : List Pl) (b : List Nat) (F : List (Nat × List Nat)) (t : T) : Prop :=
  (∃ F', t = .tup [.non, enc (fD F')] ∧ Fine p ps F' ∧ (∀ x ∈ F, x ∈ F') ∧ (0, b) ∈ F') ∨
  ∃ w k s, t = .tup [.tup [.str w, numsT b, .int (k : Nat)], enc (fD F)] ∧ (w = "stuck" ∨ w = "missed") ∧ itr p k (some (0, b)) = some s ∧ St p s.1 s.2 ∧ Wd p ps (some s) w ∧ k < p.rows.length * (p.M + 1) ^ p.B
theorem retB_ok {i : Nat} {fa : FE} {ρ : Ev'} {t : T} {F : List (Nat × List Nat)} (h : ρ[i]? = some (.dp (fD F))) (ha : fa ρ = .ok t) : sRetB i fa ρ = .rt (.tup [t, enc (fD F)]) := by
  unfold sRetB
  rw [ha]
  show (match ρ[i]? with | some (.dp d) => if encOk d then Out.rt (.tup [t, enc d]) else .bad | _ => .bad) = _
  rw [h]
  rfl
theorem putF_ok {i : Nat} {fk : FE} {ρ : Ev'} {F : List (Nat × List Nat)} {s : Nat × List Nat} (h : ρ[i]? = some (.dp (fD F))) (hk : fk ρ = .ok (sT s)) (hm : ¬ s ∈ F) (hl : F.length ≤ 4000) : sDtPut i fk (eC (.bl true)) ρ = .nx (ρ.set i (.dp (fD (F ++ [s])))) := by
  unfold sDtPut
  show (match ρ[i]? with
  | some (.dp (.dt ks ws)) => sLift ρ (fk ρ) fun k => (match tk? k with | some _ => if ks.length < 100000 then Out.nx (ρ.set i (.dp (.dt (putK2 ks ws k (.bl true)).1 (putK2 ks ws k (.bl true)).2))) else .bad | none => .bad)
  | _ => .bad) = _
  rw [h, hk]
  show (match tk? (sT s) with | some _ => if (F.map sT).length < 100000 then Out.nx (ρ.set i (.dp (.dt (putK2 (F.map sT) (trT F.length) (sT s) (.bl true)).1 (putK2 (F.map sT) (trT F.length) (sT s) (.bl true)).2))) else .bad | none => .bad) = _
  rw [tk_sT]
  show (if (F.map sT).length < 100000 then Out.nx (ρ.set i (.dp (.dt (putK2 (F.map sT) (trT F.length) (sT s) (.bl true)).1 (putK2 (F.map sT) (trT F.length) (sT s) (.bl true)).2))) else .bad) = _
  rw [if_pos (by rw [List.length_map]; exact lt_big4 hl), put_sT hm]
  unfold fD trT
  rw [List.length_append, List.length_singleton, List.replicate_succ']
theorem forU {a b c x y z : Sl} : ∀ (vis F : List (Nat × List Nat)) (w : Sl), (F ++ vis).Nodup → (F ++ vis).length ≤ 4000 →
    ∃ w', loopF (.nm 8) (sDtPut 3 (eV 8) (eC (.bl true))) (vis.map sT) [a, b, c, .dp (fD F), .un, x, y, z, w] = .nx [a, b, c, .dp (fD (F ++ vis)), .un, x, y, z, w']
  | [], F, w, _, _ => ⟨w, by rw [List.append_nil]; rfl⟩
  | s :: vis, F, w, nd, hl => by
    have e : F ++ s :: vis = (F ++ [s]) ++ vis := by rw [List.append_assoc]; rfl
    have hm : ¬ s ∈ F := fun m => (List.nodup_append.mp nd).2.2 s m s List.mem_cons_self rfl
    have hF : F.length ≤ 4000 := by rw [List.length_append] at hl; omega
    rw [e] at nd hl
    obtain ⟨w', q⟩ := forU vis (F ++ [s]) (.sh (sT s)) nd hl
    refine ⟨w', ?_⟩
    rw [List.map_cons]
    unfold loopF
    simp only [setT, List.set_cons_succ, List.set_cons_zero]
    rw [putF_ok (s := s) rfl rfl hm hF]
    simp only [List.set_cons_succ, List.set_cons_zero]
    rw [q, e]
theorem endU {p : Pg} {ps : List Pl} {F vis : List (Nat × List Nat)} {a b c x y z w : Sl} (nd : (F ++ vis).Nodup) (hl : (F ++ vis).length ≤ 4000) :
    eU' [a, b, c, .dp (fD F), .dp (.dt (vis.map sT) (nT 0 vis.length)), x, y, z, w] = .rt (.tup [.non, enc (fD (F ++ vis))]) := by
  obtain ⟨w', e⟩ := forU (a := a) (b := b) (c := c) (x := x) (y := y) (z := z) vis F w nd hl
  have e2 : sForD 4 (.nm 8) (sDtPut 3 (eV 8) (eC (.bl true))) [a, b, c, .dp (fD F), .dp (.dt (vis.map sT) (nT 0 vis.length)), x, y, z, w] = .nx [a, b, c, .dp (fD (F ++ vis)), .un, x, y, z, w'] := by
    show noRt (loopF (.nm 8) (sDtPut 3 (eV 8) (eC (.bl true))) (vis.map sT) [a, b, c, .dp (fD F), .un, x, y, z, w]) = _
    rw [e]
    rfl
  unfold eU'
  rw [sSeq_nx e2]
  exact retB_ok rfl rfl
theorem state_lt {p : Pg} {vis : List (Nat × List Nat)} {s : Nat × List Nat} (nd : vis.Nodup) (st : StA p vis) (hs : St p s.1 s.2) (hn : ¬ s ∈ vis) : vis.length < p.rows.length * (p.M + 1) ^ p.B := by
  obtain ⟨h1, h2⟩ := vis_snoc nd st hs hn
  have := states_le h1 h2
  rw [List.length_append, List.length_singleton] at this
  exact this
theorem itr_at {p : Pg} {vis : List (Nat × List Nat)} {o : Option (Nat × List Nat)} {s0 : Nat × List Nat} (hp : Pth p vis o) (hd : (vis ++ o.toList).head? = some s0) : itr p vis.length (some s0) = o ∧ ∀ k, k < vis.length → itr p k (some s0) = vis[k]? := by
  cases vis with
  | nil =>
    refine ⟨?_, fun k hk => absurd hk (Nat.not_lt_zero _)⟩
    cases o with
    | none => cases hd
    | some s =>
      have : some s = some s0 := hd
      exact this.symm
  | cons a r =>
    have e : some a = some s0 := hd
    cases e
    exact Pth_itr rfl hp
theorem any_rows {p q : Pg} {ps : List Pl} (hps : Pls p q ps) : ∀ (l : List (Nat × List Nat)), (l.any fun s => ps.any fun x => x.row == s.1) = true ↔ ∃ x ∈ l, wl ps x ≠ none := by
  intro l
  rw [List.any_eq_true]
  constructor
  · rintro ⟨x, hx, h⟩
    refine ⟨x, hx, ?_⟩
    rw [any_find] at h
    unfold wl
    cases f : ps.find? (fun y => y.row == x.1) with
    | none => rw [f] at h; cases h
    | some y => intro z; cases z
  · rintro ⟨x, hx, h⟩
    refine ⟨x, hx, ?_⟩
    rw [any_find]
    unfold wl at h
    cases f : ps.find? (fun y => y.row == x.1) with
    | none => rw [f] at h; exact (h rfl).elim
    | some y => rfl
theorem gAny_bls : ∀ l : List Bool, gAny (.lst (l.map T.bl)) = some (.bl (l.any id)) := by
  intro l
  show (bls (l.map T.bl)).map (fun bs => T.bl (bs.any id)) = _
  have e : bls (l.map T.bl) = some l := by
    induction l with
    | nil => rfl
    | cons a l ih =>
      show (bls (l.map T.bl)).map (a :: ·) = _
      rw [ih]
      rfl
  rw [e]
  rfl
end K11

namespace K11
open PySem PySem.Spec PyProof.Rows L2 Evl VS
theorem loopU {p q : Pg} {ps : List Pl} {b : List Nat} {F : List (Nat × List Nat)} (hp : p.ok) (hq : q.ok) (hps : Pls p q ps) (hF : Fine p ps F) : ∀ (n : Nat) (vis : List (Nat × List Nat)) (o : Option (Nat × List Nat)) (z6 z7 z8 : Sl), 2501 ≤ vis.length + n → vis.Nodup → StA p vis → (∀ x ∈ vis, x ∉ F) → (∀ x ∈ vis, wl ps x ≠ some "stuck") → Pth p vis o → StO p o → (vis ++ o.toList).head? = some (0, b) →
    VS.Good (AnsU p ps b F) (sSeq (whF cU bU n) rU [.sh p.t, .sh (byT ps), .sh (numsT b), .dp (fD F), .dp (.dt (vis.map sT) (nT 0 vis.length)), .sh (oS o), z6, z7, z8]) := by
  intro n
  induction n with
  | zero =>
    intro vis o z6 z7 z8 hl nd st _ _ _ _ _
    have := vis_len hp nd st
    omega
  | succ n ih =>
    intro vis o z6 z7 z8 hl nd st ap hns hpt ho hd
    have hv := vis_len hp nd st
    have hf := vis_len hp hF.nd hF.st
    have ndF : (F ++ vis).Nodup := List.nodup_append.mpr ⟨hF.nd, nd, fun a ha c hc e => ap c hc (by rw [← e]; exact ha)⟩
    have lF : (F ++ vis).length ≤ 4000 := by
      have := vis_len hp ndF fun x m => by
        rcases List.mem_append.mp m with m | m
        · exact hF.st x m
        · exact st x m
      omega
    have hin : (∃ s, o = some s ∧ s ∈ F) ∨ vis ≠ [] → (0, b) ∈ F ++ vis := by
      intro h
      cases vis with
      | nil =>
        rcases h with ⟨s, e, m⟩ | h
        · subst e
          have e2 : some s = some ((0, b) : Nat × List Nat) := hd
          cases e2
          exact List.mem_append_left _ m
        · exact (h rfl).elim
      | cons a r =>
        have e2 : some a = some ((0, b) : Nat × List Nat) := hd
        cases e2
        exact List.mem_append_right _ List.mem_cons_self
    -- all that was come by is safe
    have fin : ∀ z5 z7', Good p ps o → (∀ s, o = some s → s ∈ F ∨ s ∈ vis) → ((∃ s, o = some s ∧ s ∈ F) ∨ vis ≠ []) → VS.Good (AnsU p ps b F) (eU' [.sh p.t, .sh (byT ps), .sh (numsT b), .dp (fD F), .dp (.dt (vis.map sT) (nT 0 vis.length)), z5, z6, z7', z8]) := fun z5 z7' hg h1 h2 =>
      ⟨_, endU (p := p) (ps := ps) ndF lF, .inl ⟨F ++ vis, rfl, hF.add nd st ap hpt hns hg h1, fun x m => List.mem_append_left _ m, hin h2⟩⟩
    cases o with
    | none =>
      have c : cU [.sh p.t, .sh (byT ps), .sh (numsT b), .dp (fD F), .dp (.dt (vis.map sT) (nT 0 vis.length)), .sh .non, z6, z7, z8] = .ok (.bl false) := eAnd_bl (a := false) (b := false) rfl fun z => by cases z
      have hne : vis ≠ [] := fun z => by rw [z] at hd; cases hd
      show VS.Good _ (sSeq (whF cU bU (n + 1)) rU [.sh p.t, .sh (byT ps), .sh (numsT b), .dp (fD F), .dp (.dt (vis.map sT) (nT 0 vis.length)), .sh .non, z6, z7, z8])
      rw [sSeq_nx (whF_f c)]
      refine pIfF (P := VS.Good _) (dtIn_non (neg := false) rfl rfl) ?_
      refine pNx (P := VS.Good _) ?_
      exact fin _ _ (.inr (Wd_over p ps)) (fun s e => by cases e) (.inr hne)
    | some s =>
      have hs : St p s.1 s.2 := ho
      show VS.Good _ (sSeq (whF cU bU (n + 1)) rU [.sh p.t, .sh (byT ps), .sh (numsT b), .dp (fD F), .dp (.dt (vis.map sT) (nT 0 vis.length)), .sh (sT s), z6, z7, z8])
      have c : cU [.sh p.t, .sh (byT ps), .sh (numsT b), .dp (fD F), .dp (.dt (vis.map sT) (nT 0 vis.length)), .sh (sT s), z6, z7, z8] = .ok (.bl (true && ((!decide (s ∈ F)) && (!decide (s ∈ vis))))) :=
        eAnd_bl (a := true) rfl fun _ => eAnd_bl (dtIn_ok (neg := true) (vis := F) (ws := trT F.length) rfl rfl) fun _ => dtIn_ok (neg := true) rfl rfl
      have ci : eDtIn false 4 (eV 5) [.sh p.t, .sh (byT ps), .sh (numsT b), .dp (fD F), .dp (.dt (vis.map sT) (nT 0 vis.length)), .sh (sT s), z6, z7, z8] = .ok (.bl (decide (s ∈ vis))) := dtIn_ok (neg := false) rfl rfl
      by_cases mF : s ∈ F
      · rw [decide_eq_true mF] at c
        have nv : ¬ s ∈ vis := fun m => ap s m mF
        rw [decide_eq_false nv] at ci
        rw [sSeq_nx (whF_f c)]
        refine pIfF (P := VS.Good _) ci ?_
        refine pNx (P := VS.Good _) ?_
        exact fin _ _ (hF.good s mF) (fun x e => by cases e; exact .inl mF) (.inl ⟨s, rfl, mF⟩)
      · rw [decide_eq_false mF] at c
        by_cases mv : s ∈ vis
        · rw [decide_eq_true mv] at c ci
          rw [sSeq_nx (whF_f c)]
          have hne : vis ≠ [] := fun z => by rw [z] at mv; cases mv
          have hidx : vis.idxOf s < vis.length := List.idxOf_lt_length_iff.mpr mv
          refine pIfT (P := VS.Good _) ci ?_
          refine pAssoc (P := VS.Good _) ?_
          refine pSet (P := VS.Good _) (dtGet_ok rfl rfl mv) ?_
          simp only [List.set_cons_succ, List.set_cons_zero]
          have cut0 : cutT (vis.map sT) (some ((vis.idxOf s : Nat) : Int)) none = (vis.drop (vis.idxOf s)).map sT := by
            unfold cutT
            show ((vis.map sT).drop (HT.sIx (vis.map sT).length 0 (some ((vis.idxOf s : Nat) : Int)))).take ((vis.map sT).length - HT.sIx (vis.map sT).length 0 (some ((vis.idxOf s : Nat) : Int))) = _
            rw [HT.sIx_nat, List.length_map, Nat.min_eq_left (by omega), List.take_of_length_le (by rw [List.length_drop, List.length_map]; exact Nat.le_refl _), List.map_drop]
          have ca : (eNot (eU gAny (eComp (iIt (eSl (eDtKeys 4) (oSome (eV 7)) oNone)) (.nm 8) [8] (eC (.bl true)) (eB (gDIn false) (eB gIx (eW 8) (eC (.int 0))) (eW 1))))) [.sh p.t, .sh (byT ps), .sh (numsT b), .dp (fD F), .dp (.dt (vis.map sT) (nT 0 vis.length)), .sh (sT s), z6, .sh (.int (vis.idxOf s : Nat)), z8] = .ok (.bl (!((vis.drop (vis.idxOf s)).any fun s => ps.any fun x => x.row == s.1))) := by
            have hit : iIt (eSl (eDtKeys 4) (oSome (eV 7)) oNone) [.sh p.t, .sh (byT ps), .sh (numsT b), .dp (fD F), .dp (.dt (vis.map sT) (nT 0 vis.length)), .sh (sT s), z6, .sh (.int (vis.idxOf s : Nat)), z8] = .ok ((vis.drop (vis.idxOf s)).map sT) := by
              refine iIt_lst ?_
              show Res.of (some (T.lst (cutT (vis.map sT) (some ((vis.idxOf s : Nat) : Int)) none))) = _
              rw [cut0]
              rfl
            have ec : eComp (iIt (eSl (eDtKeys 4) (oSome (eV 7)) oNone)) (.nm 8) [8] (eC (.bl true)) (eB (gDIn false) (eB gIx (eW 8) (eC (.int 0))) (eW 1)) [.sh p.t, .sh (byT ps), .sh (numsT b), .dp (fD F), .dp (.dt (vis.map sT) (nT 0 vis.length)), .sh (sT s), z6, .sh (.int (vis.idxOf s : Nat)), z8] = .ok (.lst (((vis.drop (vis.idxOf s)).map fun s => ps.any fun x => x.row == s.1).map T.bl)) := by
              unfold eComp
              rw [hit]
              show (Res.bind (compF (.nm 8) (eC (.bl true)) (eB (gDIn false) (eB gIx (eW 8) (eC (.int 0))) (eW 1)) ((vis.drop (vis.idxOf s)).map sT) [.sh p.t, .sh (byT ps), .sh (numsT b), .dp (fD F), .dp (.dt (vis.map sT) (nT 0 vis.length)), .sh (sT s), z6, .sh (.int (vis.idxOf s : Nat)), .un]) fun ts => if ts.length ≤ 99999 then Res.ok (T.lst ts) else .bad) = _
              rw [compF_filter (u := sT) (f := fun s => T.bl (ps.any fun x => x.row == s.1)) (p := fun _ => true) fun x m => ⟨rfl, fun _ => eB_ok (eB_ok rfl rfl (show gIx (sT x) (.int 0) = some (.int (x.1 : Nat)) from rfl)) rfl (in_byT ps x.1)⟩, List.filter_eq_self.mpr fun _ _ => rfl]
              show (if ((vis.drop (vis.idxOf s)).map fun s => T.bl (ps.any fun x => x.row == s.1)).length ≤ 99999 then Res.ok (T.lst ((vis.drop (vis.idxOf s)).map fun s => T.bl (ps.any fun x => x.row == s.1))) else .bad) = _
              rw [if_pos (Nat.le_of_lt_succ (lt_big4 (by rw [List.length_map, List.length_drop]; omega))), List.map_map]
              rfl
            refine eNot_bl (eU_ok ec ?_)
            rw [gAny_bls, List.any_map]
            rfl
          cases hany : (vis.drop (vis.idxOf s)).any fun s => ps.any fun x => x.row == s.1 with
          | true =>
            rw [hany] at ca
            refine pIfF (P := VS.Good _) ca ?_
            refine pNx (P := VS.Good _) ?_
            exact fin _ _ (Pth_round hpt mv hns ((any_rows hps _).mp hany)) (fun x e => by cases e; exact .inr mv) (.inr hne)
          | false =>
            rw [hany] at ca
            have hno : ∀ x ∈ vis.drop (vis.idxOf s), wl ps x = none := fun x m => by
              cases e : wl ps x with
              | none => rfl
              | some w =>
                have := (any_rows hps _).mpr ⟨x, m, by rw [e]; intro z; cases z⟩
                rw [hany] at this
                cases this
            refine pIfT (P := VS.Good _) ca ?_
            refine pSeqRt (P := VS.Good _) (retB_ok rfl (eTup_ok (aCons_ok rfl (aCons_ok rfl (aCons_ok rfl rfl))) (by show 3 ≤ 1000; decide))) ⟨_, rfl, .inr ⟨"missed", vis.idxOf s, s, rfl, .inr rfl, ?_, hs, Pth_missed hpt mv hno, ?_⟩⟩
            · rw [(itr_at hpt hd).2 _ hidx, List.getElem?_eq_getElem hidx, List.getElem_idxOf hidx]
            · have := states_le nd st
              omega
        · rw [decide_eq_false mv] at c
          have hk := isstuck_ok hq hps hs
          cases hw : (wl ps s == some "stuck") with
          | true =>
            rw [hw] at hk
            have hw' : wl ps s = some "stuck" := eq_of_beq hw
            have bb : bU [.sh p.t, .sh (byT ps), .sh (numsT b), .dp (fD F), .dp (.dt (vis.map sT) (nT 0 vis.length)), .sh (sT s), z6, z7, z8] = .rt (.tup [.tup [.str "stuck", numsT b, .int (vis.length : Nat)], enc (fD F)]) := by
              unfold bU
              generalize m_is_stuck = G1 at *
              refine pIfT (P := fun o => o = .rt _) (eCall_ok (aCons_ok rfl (aCons_ok rfl rfl)) rfl hk) ?_
              exact pSeqRt (P := fun o => o = .rt _) (retB_ok rfl (eTup_ok (aCons_ok rfl (aCons_ok rfl (aCons_ok (dtLen_ok rfl) rfl))) (by show 3 ≤ 1000; decide))) rfl
            unfold sSeq
            rw [whF_rt c bb]
            exact ⟨_, rfl, .inr ⟨"stuck", vis.length, s, rfl, .inl rfl, (itr_at hpt hd).1, hs, Wd_at hw', state_lt nd st hs mv⟩⟩
          | false =>
            rw [hw] at hk
            have hlt := hs.1
            have hr : p.rows[s.1]? = some p.rows[s.1] := List.getElem?_eq_getElem hs.1
            have h1 := stepped_ok hp hr hs.2
            have en : nxt p s = nx p s.1 s.2 p.rows[s.1] := by unfold nxt; rw [hr]
            have bb : bU [.sh p.t, .sh (byT ps), .sh (numsT b), .dp (fD F), .dp (.dt (vis.map sT) (nT 0 vis.length)), .sh (sT s), z6, z7, z8] = .nx [.sh p.t, .sh (byT ps), .sh (numsT b), .dp (fD F), .dp (.dt ((vis ++ [s]).map sT) (nT 0 (vis ++ [s]).length)), .sh (oS (nxt p s)), .sh (oN (tl s.2 p.rows[s.1])), z7, z8] := by
              unfold bU
              generalize m_is_stuck = G1 at *
              generalize m_stepped = G2 at *
              refine pIfF (P := fun o => o = .nx _) (eCall_ok (aCons_ok rfl (aCons_ok rfl rfl)) rfl hk) ?_
              refine pNx (P := fun o => o = .nx _) ?_
              refine pSeq (P := fun o => o = .nx _) (dtPut_ok rfl (dtLen_ok rfl) rfl mv (by omega)) ?_
              simp only [List.set_cons_succ, List.set_cons_zero]
              unfold sAsg
              have h2 : eCall 2 G2 (aCons (eV 0) (aCons (eV 5) aNil)) [.sh p.t, .sh (byT ps), .sh (numsT b), .dp (fD F), .dp (.dt ((vis ++ [s]).map sT) (nT 0 (vis ++ [s]).length)), .sh (sT s), z6, z7, z8] = .ok (stepT p s.1 s.2 p.rows[s.1]) := eCall_ok (aCons_ok rfl (aCons_ok rfl rfl)) rfl h1
              rw [h2, en]
              rfl
            rw [show sSeq (whF cU bU (n + 1)) rU [.sh p.t, .sh (byT ps), .sh (numsT b), .dp (fD F), .dp (.dt (vis.map sT) (nT 0 vis.length)), .sh (sT s), z6, z7, z8] = sSeq (whF cU bU n) rU [.sh p.t, .sh (byT ps), .sh (numsT b), .dp (fD F), .dp (.dt ((vis ++ [s]).map sT) (nT 0 (vis ++ [s]).length)), .sh (oS (nxt p s)), .sh (oN (tl s.2 p.rows[s.1])), z7, z8] from by
              unfold sSeq
              rw [whF_nx c bb]]
            obtain ⟨nd', st'⟩ := vis_snoc nd st hs mv
            refine ih (vis ++ [s]) (nxt p s) _ _ _ (by rw [List.length_append, List.length_singleton]; omega) nd' st' (fun x m => ?_) (fun x m => ?_) (Pth_snoc hpt) (nxt_ok hp hs) ?_
            · rcases List.mem_append.mp m with m | m
              · exact ap x m
              · rw [List.mem_singleton.mp m]; exact mF
            · rcases List.mem_append.mp m with m | m
              · exact hns x m
              · rw [List.mem_singleton.mp m]
                intro z
                rw [z] at hw
                simp at hw
            · cases vis with
              | nil => exact hd
              | cons a r => exact hd
theorem unsafe_ok {p q : Pg} {ps : List Pl} {b : List Nat} {F : List (Nat × List Nat)} (hp : p.ok) (hq : q.ok) (hps : Pls p q ps) (hF : Fine p ps F) (hb : Nums p b) : ∃ t, b_unsafe_run [.sh p.t, .sh (byT ps), .sh (numsT b), .dp (fD F), .un, .un, .un, .un, .un] = .rt t ∧ AnsU p ps b F t := by
  have h := loopU (b := b) hp hq hps hF 3000 [] (some (0, b)) .un .un .un (by decide) List.nodup_nil (fun x m => by cases m) (fun x m => by cases m) (fun x m => by cases m) trivial ⟨hp.n1, hb⟩ rfl
  show VS.Good _ _
  unfold b_unsafe_run
  refine pSeq (P := VS.Good _) (f := sNewDt 4) rfl ?_
  refine pSet (P := VS.Good _) (t := sT (0, b)) (eTup_ok (aCons_ok rfl (aCons_ok rfl rfl)) (by show 2 ≤ 1000; decide)) ?_
  exact h
theorem unsafe_run_ok {p q : Pg} {ps : List Pl} {b : List Nat} {F : List (Nat × List Nat)} (hp : p.ok) (hq : q.ok) (hps : Pls p q ps) (hF : Fine p ps F) (hb : Nums p b) :
    (∃ F', m_unsafe_run [p.t, byT ps, numsT b, .non] (fD F) = .ok .non (fD F') ∧ Fine p ps F' ∧ (∀ x ∈ F, x ∈ F') ∧ (0, b) ∈ F') ∨
    ∃ w k s, m_unsafe_run [p.t, byT ps, numsT b, .non] (fD F) = .ok (.tup [.str w, numsT b, .int (k : Nat)]) (fD F) ∧ (w = "stuck" ∨ w = "missed") ∧ itr p k (some (0, b)) = some s ∧ St p s.1 s.2 ∧ Wd p ps (some s) w ∧ k < p.rows.length * (p.M + 1) ^ p.B := by
  obtain ⟨t, e, h⟩ := unsafe_ok hp hq hps hF hb
  have e' : b_unsafe_run (frB 3 9 [p.t, byT ps, numsT b, .non] (fD F)) = .rt t := e
  rcases h with ⟨F', rfl, h1, h2, h3⟩ | ⟨w, k, s, rfl, h1, h2, h3, h4, h5⟩
  · refine .inl ⟨F', ?_, h1, h2, h3⟩
    show outB 3 (b_unsafe_run (frB 3 9 [p.t, byT ps, numsT b, .non] (fD F))) = _
    rw [e']
    rfl
  · refine .inr ⟨w, k, s, ?_, h1, h2, h3, h4, h5⟩
    show outB 3 (b_unsafe_run (frB 3 9 [p.t, byT ps, numsT b, .non] (fD F))) = _
    rw [e']
    rfl
end K11

namespace K11
open PySem PySem.Spec PyProof.Rows L2 Evl VS
/-! ### looked -/
theorem runB_ok {j n : Nat} {g : MirB} {fr : FA} {kk : T → Ev' → Out} {ρ : Ev'} {ts : List T} {d d' : D} {t : T} (h1 : fr ρ = .ok ts) (h2 : ts.length = n) (h3 : ρ[j]? = some (.dp d)) (h4 : encOk d = true) (h5 : g ts d = .ok t d') : runB j n g fr kk ρ = kk t (ρ.set j (.dp d')) := by
  unfold runB
  simp only [h1, h2, if_true, h3, h4, h5]
def LookQ (p : Pg) (ps : List Pl) (t : T) : Prop :=
  (t = .tup [.str "safe"] ∧ ∃ F, Fine p ps F ∧ ∀ b ∈ begL p.M p.B, (0, b) ∈ F) ∨
  ∃ w b k s, t = .tup [.str w, numsT b, .int (k : Nat)] ∧ b ∈ begL p.M p.B ∧ (w = "stuck" ∨ w = "missed") ∧ itr p k (some (0, b)) = some s ∧ St p s.1 s.2 ∧ Wd p ps (some s) w ∧ k < p.rows.length * (p.M + 1) ^ p.B
theorem looked_ok {p q : Pg} {ps : List Pl} (hp : p.ok) (hq : q.ok) (hps : Pls p q ps) : ∃ t, m_looked [p.t, q.t, .lst (ps.map Pl.t)] = .ok t ∧ LookQ p ps t := by
  have h1 := need_places_ok hp hq hps
  have h2 := by_row_ok hps.nd (by have := hps.len; have := hp.n20; omega)
  have h3 := begins_ok hp
  have hu : ∀ (F : List (Nat × List Nat)) (b : List Nat), Fine p ps F → Nums p b → _ := fun F b hF hb => unsafe_run_ok (b := b) (F := F) hp hq hps hF hb
  refine def_P (Q := LookQ p ps) ?_
  show VS.Good _ (b_looked [.sh p.t, .sh q.t, .sh (.lst (ps.map Pl.t)), .un, .un, .un, .un])
  unfold b_looked
  generalize m_need_places = F1 at *
  generalize m_by_row = F2 at *
  generalize m_begins = F3 at *
  generalize m_unsafe_run = F4 at *
  refine pSet (P := VS.Good _) (eCall_ok (aCons_ok (eCall_ok (aCons_ok rfl (aCons_ok rfl (aCons_ok rfl rfl))) rfl h1) rfl) rfl h2) ?_
  simp only [List.set_cons_succ, List.set_cons_zero]
  refine pSeq (P := VS.Good _) (f := sNewDt 4) rfl ?_
  refine pFor (P := VS.Good _) (α := List Nat) (u := numsT) (fun r ρ => ∃ A F z5 z6, begL p.M p.B = A ++ r ∧ Fine p ps F ∧ (∀ b ∈ A, (0, b) ∈ F) ∧ ρ = [.sh p.t, .sh q.t, .sh (.lst (ps.map Pl.t)), .sh (byT ps), .dp (fD F), z5, z6]) (l := begL p.M p.B) (iIt_lst (eCall_ok (aCons_ok rfl rfl) rfl h3))
    ⟨[], [], .un, .un, rfl, ⟨List.nodup_nil, fun x m => (nomatch m), fun x m => (nomatch m), fun x m => (nomatch m)⟩, fun b m => (nomatch m), rfl⟩ ?_ ?_
  · rintro b r ρ ⟨A, F, z5, z6, e, hF, hA, rfl⟩
    have hb : b ∈ begL p.M p.B := by rw [e]; simp
    have hN : Nums p b := begL_mem.mp hb
    refine ⟨[.sh p.t, .sh q.t, .sh (.lst (ps.map Pl.t)), .sh (byT ps), .dp (fD F), .sh (numsT b), z6], rfl, ?_⟩
    rcases hu F b hF hN with ⟨F', e1, hF', sub, m0⟩ | ⟨w, k, s, e1, hw, hk, hs, hd, hl⟩
    · refine .inl ⟨[.sh p.t, .sh q.t, .sh (.lst (ps.map Pl.t)), .sh (byT ps), .dp (fD F'), .sh (numsT b), .sh .non], ?_, A ++ [b], F', _, _, by rw [List.append_assoc]; exact e, hF', fun x m => ?_, rfl⟩
      · have a1 : sSetB 6 4 4 F4 (aCons (eV 0) (aCons (eV 3) (aCons (eV 5) (aCons (eC .non) aNil)))) [.sh p.t, .sh q.t, .sh (.lst (ps.map Pl.t)), .sh (byT ps), .dp (fD F), .sh (numsT b), z6] = .nx [.sh p.t, .sh q.t, .sh (.lst (ps.map Pl.t)), .sh (byT ps), .dp (fD F'), .sh (numsT b), .sh .non] := by
          unfold sSetB
          exact runB_ok (ts := [p.t, byT ps, numsT b, .non]) (d := fD F) (d' := fD F') (t := .non) (aCons_ok rfl (aCons_ok rfl (aCons_ok rfl (aCons_ok rfl rfl)))) rfl rfl rfl e1
        rw [sSeq_nx a1]
        rfl
      · rcases List.mem_append.mp m with m | m
        · exact sub _ (hA x m)
        · rw [List.mem_singleton.mp m]; exact m0
    · refine .inr (.inr ⟨.tup [.str w, numsT b, .int (k : Nat)], ?_, ⟨_, rfl, .inr ⟨w, b, k, s, rfl, hb, hw, hk, hs, hd, hl⟩⟩⟩)
      have a1 : sSetB 6 4 4 F4 (aCons (eV 0) (aCons (eV 3) (aCons (eV 5) (aCons (eC .non) aNil)))) [.sh p.t, .sh q.t, .sh (.lst (ps.map Pl.t)), .sh (byT ps), .dp (fD F), .sh (numsT b), z6] = .nx [.sh p.t, .sh q.t, .sh (.lst (ps.map Pl.t)), .sh (byT ps), .dp (fD F), .sh (numsT b), .sh (.tup [.str w, numsT b, .int (k : Nat)])] := by
        unfold sSetB
        exact runB_ok (ts := [p.t, byT ps, numsT b, .non]) (d := fD F) (d' := fD F) (aCons_ok rfl (aCons_ok rfl (aCons_ok rfl (aCons_ok rfl rfl)))) rfl rfl rfl e1
      rw [sSeq_nx a1]
      rfl
  · rintro ρ ⟨A, F, z5, z6, e, hF, hA, rfl⟩
    rw [List.append_nil] at e
    exact pRet (P := VS.Good _) (eTup_ok (aCons_ok rfl rfl) (by show 1 ≤ 1000; decide)) ⟨_, rfl, .inl ⟨rfl, F, hF, by rw [e]; exact hA⟩⟩
/-- what is come by from the begins -/
theorem Fine.itr {p : Pg} {ps : List Pl} {F : List (Nat × List Nat)} (h : Fine p ps F) : ∀ (k : Nat) (x y : Nat × List Nat), x ∈ F → K11.itr p k (some x) = some y → y ∈ F
  | 0, x, y, m, e => by cases e; exact m
  | k + 1, x, y, m, e => by
    have e : K11.itr p k (nxt p x) = some y := e
    cases f : nxt p x with
    | none => rw [f, itr_none] at e; cases e
    | some z =>
      rw [f] at e
      exact h.itr k z y (h.next x m z f) e
end K11

namespace K11
open PySem PySem.Spec PyProof.Rows L2 Evl VS
def stp (p : Pg) (s : Option (Nat × List Nat)) : Option (Nat × List Nat) × List Nat := match s with
  | none => (none, [])
  | some (i, l) => match p.rows[i]? with
    | some r => (nx p i l r, (tl l r).toList)
    | none => (none, [])
def goes (p : Pg) : Nat → Option (Nat × List Nat) → List Nat → Option (Nat × List Nat) × List Nat
  | 0, s, acc => (s, acc)
  | n + 1, s, acc => goes p n (stp p s).1 (acc ++ (stp p s).2)
theorem goes_none (p : Pg) : ∀ n acc, goes p n none acc = (none, acc)
  | 0, _ => rfl
  | n + 1, acc => by
    show goes p n none (acc ++ []) = _
    rw [List.append_nil, goes_none p n]
theorem stp_len (p : Pg) (s : Option (Nat × List Nat)) : (stp p s).2.length ≤ 1 := by
  unfold stp
  split
  · exact Nat.zero_le _
  · split
    · rename_i i l r _
      cases r <;> simp [tl]
    · exact Nat.zero_le _
theorem stp_ok {p : Pg} (h : p.ok) {s : Option (Nat × List Nat)} (hs : StO p s) : StO p (stp p s).1 := by
  unfold stp
  cases s with
  | none => trivial
  | some x =>
    obtain ⟨i, l⟩ := x
    cases e : p.rows[i]? with
    | none => simp only [e]; trivial
    | some r => simp only [e]; exact nx_good h e hs
theorem goes_ok {p : Pg} (h : p.ok) : ∀ (n : Nat) (s : Option (Nat × List Nat)) (acc : List Nat), StO p s → StO p (goes p n s acc).1
  | 0, _, _, hs => hs
  | n + 1, s, acc, hs => goes_ok h n _ _ (stp_ok h hs)
theorem goes_len (p : Pg) : ∀ (n : Nat) (s : Option (Nat × List Nat)) (acc : List Nat), (goes p n s acc).2.length ≤ acc.length + n
  | 0, _, _ => Nat.le_refl _
  | n + 1, s, acc => by
    have := goes_len p n (stp p s).1 (acc ++ (stp p s).2)
    have h2 := stp_len p s
    rw [List.length_append] at this
    show (goes p n (stp p s).1 (acc ++ (stp p s).2)).2.length ≤ _
    omega
def intsT (l : List Nat) : T := .lst (l.map fun n => .int (n : Nat))
theorem stp_tree {p : Pg} {i : Nat} {l : List Nat} {r : Rw} (hr : p.rows[i]? = some r) : stepT p i l r = .tup [oS (stp p (some (i, l))).1, oN (tl l r)] ∧ (stp p (some (i, l))).2 = (tl l r).toList := by
  have e : stp p (some (i, l)) = (nx p i l r, (tl l r).toList) := by unfold stp; simp only [hr]
  rw [e]
  exact ⟨rfl, rfl⟩
theorem iRg_big {fa : FE} {ρ : Ev'} {n : Nat} (h : fa ρ = .ok (.int (n : Nat))) (hn : n ≤ 4000) : iRg fa ρ = .ok ((List.range n).map fun i => .int (i : Nat)) := by
  have hb : ((n : Nat) : Int) ≤ 100000 := Int.ofNat_le.mpr (Nat.le_of_lt (lt_big4 hn))
  have hb0 : (-100000 : Int) ≤ (n : Nat) := by omega
  unfold iRg
  rw [h]
  simp [Res.bind, hb, hb0]
theorem law_states_ok {p : Pg} (h : p.ok) : m_law_states [p.t] = .ok (.int (p.rows.length * (p.M + 1) ^ p.B : Nat)) := by
  refine fDef_rt ?_
  show b_law_states [.sh p.t, .un, .un] = _
  unfold b_law_states
  have hb3 := h.b3
  have p0 : gIx p.t (.int 0) = some (.int p.B) := rfl
  have p1 : gIx p.t (.int 1) = some (.int p.M) := rfl
  have p2 : gIx p.t (.int 2) = some (.lst (p.rows.map Rw.t)) := rfl
  refine pSet (P := fun o => o = .rt _) (eU_ok (eB_ok rfl rfl p2) (gLen_map _ _)) ?_
  simp only [List.set_cons_succ, List.set_cons_zero]
  refine pForR (P := fun o => o = .rt _) (N := p.B) (fun k ρ => ∃ x2, ρ = [.sh p.t, .sh (.int (p.rows.length * (p.M + 1) ^ k : Nat)), x2]) (iRg_ok (eB_ok rfl rfl p0) (by omega)) ⟨_, by rw [Nat.pow_zero, Nat.mul_one]⟩ ?_ ?_
  · rintro k hk ρ ⟨x2, rfl⟩
    simp only [List.set_cons_succ, List.set_cons_zero]
    refine ⟨[.sh p.t, .sh (.int (p.rows.length * (p.M + 1) ^ (k + 1) : Nat)), .sh (.int (k : Nat))], ?_, _, rfl⟩
    have e : ((p.rows.length * (p.M + 1) ^ k : Nat) : Int) * ((p.M : Int) + 1) = ((p.rows.length * (p.M + 1) ^ (k + 1) : Nat) : Int) := by
      rw [Nat.pow_succ, ← Nat.mul_assoc, Int.natCast_mul (p.rows.length * (p.M + 1) ^ k), Int.natCast_add]
      rfl
    generalize p.rows.length * (p.M + 1) ^ k = a at *
    generalize p.rows.length * (p.M + 1) ^ (k + 1) = c at *
    have g1 : gAdd (.int p.M) (.int 1) = some (.int ((p.M : Int) + 1)) := rfl
    have g2 : gMul (.int (a : Nat)) (.int ((p.M : Int) + 1)) = some (.int (c : Nat)) := by
      have hm4 := h.m4
      rw [← e]
      simp only [gMul]
      rw [if_pos (Or.inr ⟨by omega, by omega⟩)]
    exact sSet_ok (eB_ok rfl (eB_ok (eB_ok rfl rfl p1) rfl g1) g2)
  · rintro ρ ⟨x2, rfl⟩
    exact pRet (P := fun o => o = .rt _) rfl rfl
/-! ### a Live -/
def LV : List Str := ["_program", "_state", "_said", "_changed", "_second", "_there"]
def lvD (p : Pg) (o : Option (Nat × List Nat)) (sd : List Nat) (c : Nat) (a b : T) : D := .ob "Live" LV [.sh p.t, .sh (oS o), .ls (sd.map fun n => .int (n : Nat)), .sh (.int (c : Nat)), .sh a, .sh b]
theorem fGet_notin {m : Str} : ∀ {ns : List Str} {ds : List D}, m ∉ ns → fGet m ns ds = none
  | [], _, _ => rfl
  | _ :: _, [], _ => rfl
  | n :: ns, d :: ds, h => by
    unfold fGet
    rw [if_neg fun e => h (by rw [e]; exact List.mem_cons_self)]
    exact fGet_notin fun m => h (List.mem_cons_of_mem _ m)
section
variable {i j n : Nat} {p p' : Pg} {o o' : Option (Nat × List Nat)} {sd : List Nat} {c k : Nat} {a b a' b' t : T} {ρ : Ev'} {fa : FE} {fr : FA} {ts : List T} {m : Str} {g : MirB} {d' : D} {gr : D → Res T}
theorem rd_program (h : ρ[i]? = some (.dp (lvD p o sd c a b))) : eFd i "Live" "_program" ρ = .ok p.t := by unfold eFd; rw [h]; rfl
theorem rd_state (h : ρ[i]? = some (.dp (lvD p o sd c a b))) : eFd i "Live" "_state" ρ = .ok (oS o) := by unfold eFd; rw [h]; rfl
theorem rd_second (h : ρ[i]? = some (.dp (lvD p o sd c a b))) : eFd i "Live" "_second" ρ = .ok a := by unfold eFd; rw [h]; rfl
theorem rs_state (h : ρ[i]? = some (.dp (lvD p o sd c a b))) : eFdS i "Live" "_state" ρ = .ok (oS o) := by unfold eFdS; rw [h]; rfl
theorem rs_there (h : ρ[i]? = some (.dp (lvD p o sd c a b))) : eFdS i "Live" "_there" ρ = .ok b := by unfold eFdS; rw [h]; rfl
theorem wr_program (h : ρ[i]? = some (.dp (lvD p o sd c a b))) (e : fa ρ = .ok p'.t) : sFd i "Live" "_program" fa ρ = .nx (ρ.set i (.dp (lvD p' o sd c a b))) := by
  unfold sFd; rw [e]
  show (match ρ[i]? with | some (.dp (.ob c' ns ds)) => _ | _ => _) = _
  rw [h]; rfl
theorem wr_state (h : ρ[i]? = some (.dp (lvD p o sd c a b))) (e : fa ρ = .ok (oS o')) : sFd i "Live" "_state" fa ρ = .nx (ρ.set i (.dp (lvD p o' sd c a b))) := by
  unfold sFd; rw [e]
  show (match ρ[i]? with | some (.dp (.ob c' ns ds)) => _ | _ => _) = _
  rw [h]; rfl
theorem wr_second (h : ρ[i]? = some (.dp (lvD p o sd c a b))) (e : fa ρ = .ok a') : sFd i "Live" "_second" fa ρ = .nx (ρ.set i (.dp (lvD p o sd c a' b))) := by
  unfold sFd; rw [e]
  show (match ρ[i]? with | some (.dp (.ob c' ns ds)) => _ | _ => _) = _
  rw [h]; rfl
theorem wr_there (h : ρ[i]? = some (.dp (lvD p o sd c a b))) (e : fa ρ = .ok b') : sFd i "Live" "_there" fa ρ = .nx (ρ.set i (.dp (lvD p o sd c a b'))) := by
  unfold sFd; rw [e]
  show (match ρ[i]? with | some (.dp (.ob c' ns ds)) => _ | _ => _) = _
  rw [h]; rfl
theorem wr_changed (h : ρ[i]? = some (.dp (lvD p o sd c a b))) (e : fa ρ = .ok (.int 1)) : sFdAdd i "Live" "_changed" fa ρ = .nx (ρ.set i (.dp (lvD p o sd (c + 1) a b))) := by
  unfold sFdAdd; rw [h]
  show (sLift ρ (fa ρ) fun t => _) = _
  rw [e]; rfl
theorem wr_step (h : ρ[i]? = some (.dp (lvD p o sd c a b))) (e : fa ρ = .ok (.tup [oS o', t])) : sFdT i "Live" "_state" j fa ρ = .nx ((ρ.set i (.dp (lvD p o' sd c a b))).set j (.sh t)) := by
  unfold sFdT; rw [e]
  show (match T.tup [oS o', t], ρ[i]? with | .tup [t1, t2], some (.dp (.ob c' ns ds)) => _ | _, _ => _) = _
  rw [h]; rfl
theorem wr_said (h : ρ[i]? = some (.dp (lvD p o sd c a b))) (e : fa ρ = .ok (.int (k : Nat))) (hl : sd.length ≤ 4000) : sFdA i "Live" "_said" fa ρ = .nx (ρ.set i (.dp (lvD p o (sd ++ [k]) c a b))) := by
  unfold sFdA; rw [h]
  show (sLift ρ (fa ρ) fun t => if (sd.map fun n => T.int (n : Nat)).length < 100000 then Out.nx (ρ.set i (.dp (.ob "Live" LV (fPut "_said" (.ls ((sd.map fun n => T.int (n : Nat)) ++ [t])) LV _).2))) else .bad) = _
  rw [e]
  show (if (sd.map fun n => T.int (n : Nat)).length < 100000 then _ else _) = _
  rw [if_pos (by rw [List.length_map]; exact lt_big4 hl)]
  unfold lvD
  rw [List.map_append]
  rfl
theorem expM_ok (h : ρ[j]? = some (.dp (lvD p o sd c a b))) (hm : m ∉ LV) (hf : fr ρ = .ok ts) (hl : ts.length + 1 = n) (hg : g (.non :: ts) (lvD p o sd c a b) = .ok t d') : sExpM j "Live" m n g fr ρ = .nx (ρ.set j (.dp d')) := by
  have hg' : g (.non :: ts) (.ob "Live" LV [.sh p.t, .sh (oS o), .ls (sd.map fun n => .int (n : Nat)), .sh (.int (c : Nat)), .sh a, .sh b]) = .ok t d' := hg
  unfold sExpM runM
  rw [h]
  show (if ("Live" : Str) = "Live" ∧ (fGet m LV _).isNone = true then _ else _) = _
  rw [if_pos ⟨rfl, by rw [fGet_notin hm]; rfl⟩, hf]
  show (if ts.length + 1 = n then _ else _) = _
  rw [if_pos hl, hg']
theorem expM_ex {x : Str} {q : List T} (h : ρ[j]? = some (.dp (lvD p o sd c a b))) (hm : m ∉ LV) (hf : fr ρ = .ok ts) (hl : ts.length + 1 = n) (hg : g (.non :: ts) (lvD p o sd c a b) = .ex x q d') : sExpM j "Live" m n g fr ρ = .ex x q (ρ.set j (.dp d')) := by
  have hg' : g (.non :: ts) (.ob "Live" LV [.sh p.t, .sh (oS o), .ls (sd.map fun n => .int (n : Nat)), .sh (.int (c : Nat)), .sh a, .sh b]) = .ex x q d' := hg
  unfold sExpM runM
  rw [h]
  show (if ("Live" : Str) = "Live" ∧ (fGet m LV _).isNone = true then _ else _) = _
  rw [if_pos ⟨rfl, by rw [fGet_notin hm]; rfl⟩, hf]
  show (if ts.length + 1 = n then _ else _) = _
  rw [if_pos hl, hg']
theorem eRd_ok (h : ρ[i]? = some (.dp (lvD p o sd c a b))) (hm : m ∉ LV) (hg : gr (lvD p o sd c a b) = .ok t) : eRd i "Live" m gr ρ = .ok t := by
  have hg' : gr (.ob "Live" LV [.sh p.t, .sh (oS o), .ls (sd.map fun n => .int (n : Nat)), .sh (.int (c : Nat)), .sh a, .sh b]) = .ok t := hg
  unfold eRd
  rw [h]
  show (if ("Live" : Str) = "Live" ∧ (fGet m LV _).isNone = true then _ else _) = _
  rw [if_pos ⟨rfl, by rw [fGet_notin hm]; rfl⟩, hg']
theorem lretB_ok (h : ρ[i]? = some (.dp (lvD p o sd c a b))) (e : fa ρ = .ok t) : sRetB i fa ρ = .rt (.tup [t, enc (lvD p o sd c a b)]) := by
  unfold sRetB
  rw [e]
  show (match ρ[i]? with | some (.dp d) => _ | _ => _) = _
  rw [h]
  rfl
theorem outB_rt (i : Nat) (t : T) : outB i (.rt (.tup [t, enc (lvD p o sd c a b)])) = .ok t (lvD p o sd c a b) := by
  show (match dec (enc (lvD p o sd c a b)) with | some d => RB.ok t d | none => .bad) = _
  rw [dec_enc rfl]
theorem outB_nx (h : ρ[i]? = some (.dp d')) : outB i (.nx ρ) = .ok .non d' := by
  show (match ρ[i]? with | some (.dp d) => RB.ok .non d | _ => .bad) = _
  rw [h]
theorem outB_ex {x : Str} {q : List T} (h : ρ[i]? = some (.dp d')) : outB i (.ex x q ρ) = .ex x q d' := by
  show (match ρ[i]? with | some (.dp d) => RB.ex x q d | _ => .bad) = _
  rw [h]
end
theorem nin_settle : ("_settle" : Str) ∉ LV := by decide +kernel
theorem nin_wait : ("_wait_for_none" : Str) ∉ LV := by decide +kernel
theorem nin_waits : ("waits" : Str) ∉ LV := by decide +kernel
theorem nin_go : ("go" : Str) ∉ LV := by decide +kernel
theorem nin_ask : ("ask" : Str) ∉ LV := by decide +kernel
theorem nin_state : ("state" : Str) ∉ LV := by decide +kernel
theorem nin_changed : ("changed" : Str) ∉ LV := by decide +kernel
theorem nin_said : ("said" : Str) ∉ LV := by decide +kernel
theorem nin_program : ("program" : Str) ∉ LV := by decide +kernel
section
variable {p : Pg} {o : Option (Nat × List Nat)} {sd : List Nat} {c : Nat} {a b : T}
theorem waits_ok {w : Bool} (hb : gNotN' b .non = some (.bl w)) : g_Live_waits (lvD p o sd c a b) = .ok (.bl w) := by
  show f_Live_waits (frB 0 1 [.non] (lvD p o sd c a b)) = _
  unfold f_Live_waits
  exact eB_ok (rs_there rfl) rfl hb
theorem gstate_ok : g_Live_state (lvD p o sd c a b) = .ok (oS o) := by
  show f_Live_state (frB 0 1 [.non] (lvD p o sd c a b)) = _
  unfold f_Live_state
  exact rd_state rfl
theorem gchanged_ok : g_Live_changed (lvD p o sd c a b) = .ok (.int (c : Nat)) := by
  show f_Live_changed (frB 0 1 [.non] (lvD p o sd c a b)) = _
  unfold f_Live_changed eFd
  rfl
theorem copied_ok (p : Pg) : m_copied [p.t] = .ok p.t := by
  refine fDef_rt ?_
  show b_copied [.sh p.t, .un, .un, .un] = _
  unfold b_copied
  refine pAsg (P := fun o => o = .rt _) (ρ' := [.sh p.t, .sh (.int p.B), .sh (.int p.M), .sh (.lst (p.rows.map Rw.t))]) rfl rfl ?_
  exact pRet (P := fun o => o = .rt _) (eTup_ok (aCons_ok rfl (aCons_ok rfl (aCons_ok (eU_ok rfl rfl) rfl))) (by show 3 ≤ 1000; decide)) rfl
theorem wait_ok : m_Live__wait_for_none [.non] (lvD p o sd c a b) = .ok .non (lvD p o sd c .non .non) := by
  show outB 0 (b_Live__wait_for_none [.dp (lvD p o sd c a b)]) = _
  unfold b_Live__wait_for_none
  refine pSeq (P := fun o => outB 0 o = _) (wr_second rfl rfl) ?_
  show outB 0 (sFd 0 "Live" "_there" (eC .non) [.dp (lvD p o sd c .non b)]) = _
  rw [wr_there rfl rfl]
  exact outB_nx rfl
theorem isN_oS (o : Option (Nat × List Nat)) : gIsN' (oS o) .non = some (.bl o.isNone) := by cases o <;> rfl
theorem pOne {P : Out → Prop} {f : FS} {ρ ρ' : Ev'} (e : f ρ = .nx ρ') (k : P (.nx ρ')) : P (f ρ) := by rw [e]; exact k
theorem settle_over : m_Live__settle [.non] (lvD p none sd c a b) = .ok .non (lvD p none sd c .non .non) := by
  show outB 0 (b_Live__settle [.dp (lvD p none sd c a b), .un, .un, .un, .un, .un]) = _
  unfold b_Live__settle
  refine pIf (P := fun o => outB 0 o = _) (b := true) (eB_ok (rs_state rfl) rfl rfl) (fun _ => ?_) (fun z => by cases z)
  exact pOne (P := fun o => outB 0 o = _) (expM_ok rfl nin_wait rfl rfl wait_ok) (outB_nx rfl)
theorem settle_none {s : Nat × List Nat} : m_Live__settle [.non] (lvD p (some s) sd c a .non) = .ok .non (lvD p (some s) sd c a .non) := by
  show outB 0 (b_Live__settle [.dp (lvD p (some s) sd c a .non), .un, .un, .un, .un, .un]) = _
  unfold b_Live__settle
  refine pIf (P := fun o => outB 0 o = _) (b := false) (eB_ok (rs_state rfl) rfl rfl) (fun z => by cases z) (fun _ => ?_)
  refine pIf (P := fun o => outB 0 o = _) (b := false) (eAnd_bl (a := false) (b := false) (eRd_ok rfl nin_waits (waits_ok rfl)) fun z => by cases z) (fun z => by cases z) (fun _ => ?_)
  exact outB_nx rfl
theorem settle_on {q : Pg} {ps : List Pl} {s : Nat × List Nat} (h : ps.find? (fun x => x.row == s.1) = none) : m_Live__settle [.non] (lvD p (some s) sd c a (byT ps)) = .ok .non (lvD p (some s) sd c a (byT ps)) := by
  show outB 0 (b_Live__settle [.dp (lvD p (some s) sd c a (byT ps)), .un, .un, .un, .un, .un]) = _
  unfold b_Live__settle
  have g0 : gIx (oS (some s)) (.int 0) = some (.int (s.1 : Nat)) := rfl
  have gi := in_byT ps s.1
  rw [any_find, h] at gi
  refine pIf (P := fun o => outB 0 o = _) (b := false) (eB_ok (rs_state rfl) rfl rfl) (fun z => by cases z) (fun _ => ?_)
  refine pIf (P := fun o => outB 0 o = _) (b := false) (eAnd_bl (a := true) (b := false) (eRd_ok rfl nin_waits (waits_ok rfl)) fun _ => eB_ok (eB_ok (rs_state rfl) rfl g0) (rs_there rfl) gi) (fun z => by cases z) (fun _ => ?_)
  exact outB_nx rfl
theorem settle_come {q : Pg} {ps : List Pl} {s : Nat × List Nat} {x : Pl} {l : List Nat} (hq : q.ok) (hps : Pls p q ps) (hs : St p s.1 s.2) (h : ps.find? (fun x => x.row == s.1) = some x) (ht : turnN s.2 x.rules = some l) :
    m_Live__settle [.non] (lvD p (some s) sd c q.t (byT ps)) = .ok .non (lvD q (some (x.other, l)) sd (c + 1) .non .non) := by
  show outB 0 (b_Live__settle [.dp (lvD p (some s) sd c q.t (byT ps)), .un, .un, .un, .un, .un]) = _
  unfold b_Live__settle
  have g0 : gIx (oS (some s)) (.int 0) = some (.int (s.1 : Nat)) := rfl
  have gi := in_byT ps s.1
  rw [any_find, h] at gi
  have gg := get_byT ps s.1
  rw [h] at gg
  have hx := hps.ok x (List.mem_of_find?_eq_some h)
  have tk := turned_ok hx.rules hq hs.2
  rw [ht] at tk
  generalize m_turned = F at *
  refine pIf (P := fun o => outB 0 o = _) (b := false) (eB_ok (rs_state rfl) rfl rfl) (fun z => by cases z) (fun _ => ?_)
  refine pIf (P := fun o => outB 0 o = _) (b := true) (eAnd_bl (a := true) (b := true) (eRd_ok rfl nin_waits (waits_ok rfl)) fun _ => eB_ok (eB_ok (rs_state rfl) rfl g0) (rs_there rfl) gi) (fun _ => ?_) (fun z => by cases z)
  refine pAsg (P := fun o => outB 0 o = _) (ρ' := [.dp (lvD p (some s) sd c q.t (byT ps)), .sh (.int (s.1 : Nat)), .sh (numsT s.2), .un, .un, .un]) (rd_state rfl) rfl ?_
  refine pAsg (P := fun o => outB 0 o = _) (ρ' := [.dp (lvD p (some s) sd c q.t (byT ps)), .sh (.int (s.1 : Nat)), .sh (numsT s.2), .sh (.int (x.row : Nat)), .sh (.int (x.other : Nat)), .sh (rulesT x.rules)]) (eB_ok (rs_there rfl) rfl gg) rfl ?_
  refine pSeq (P := fun o => outB 0 o = _) (wr_program rfl (rd_second rfl)) ?_
  simp only [List.set_cons_succ, List.set_cons_zero]
  refine pSeq (P := fun o => outB 0 o = _) (wr_state (o' := some (x.other, l)) rfl (eTup_ok (aCons_ok rfl (aCons_ok (eCall_ok (aCons_ok rfl (aCons_ok rfl rfl)) rfl tk) rfl)) (by show 2 ≤ 1000; decide))) ?_
  simp only [List.set_cons_succ, List.set_cons_zero]
  refine pSeq (P := fun o => outB 0 o = _) (wr_changed rfl rfl) ?_
  simp only [List.set_cons_succ, List.set_cons_zero]
  exact pOne (P := fun o => outB 0 o = _) (expM_ok rfl nin_wait rfl rfl wait_ok) (outB_nx rfl)
theorem go_over : m_Live_go [.non] (lvD p none sd c a b) = .ok (.bl false) (lvD p none sd c a b) := by
  show outB 0 (b_Live_go [.dp (lvD p none sd c a b), .un]) = _
  unfold b_Live_go
  refine pIfT (P := fun o => outB 0 o = _) (eB_ok (rs_state rfl) rfl rfl) ?_
  rw [sSeq_rt (lretB_ok rfl rfl)]
  exact outB_rt _ _
/-- a step: what the settling tells of the next state is told -/
theorem go_on {s : Nat × List Nat} {d' : D} (hp : p.ok) (hs : St p s.1 s.2) (hl : sd.length ≤ 4000) (hd : ∃ p' o' sd' c' a' b', d' = lvD p' o' sd' c' a' b') (h : m_Live__settle [.non] (lvD p (stp p (some s)).1 (sd ++ (stp p (some s)).2) c a b) = .ok .non d') :
    m_Live_go [.non] (lvD p (some s) sd c a b) = .ok (.bl true) d' := by
  obtain ⟨p', o', sd', c', a', b', rfl⟩ := hd
  obtain ⟨i, l⟩ := s
  show outB 0 (b_Live_go [.dp (lvD p (some (i, l)) sd c a b), .un]) = _
  unfold b_Live_go
  obtain ⟨r, hr⟩ : ∃ r, p.rows[i]? = some r := ⟨_, List.getElem?_eq_getElem hs.1⟩
  obtain ⟨e1, e2⟩ := stp_tree (l := l) hr
  have e3 := stepped_ok hp hr hs.2
  rw [e1] at e3
  rw [e2] at h
  have e3 : m_stepped [p.t, oS (some (i, l))] = .ok (.tup [oS (stp p (some (i, l))).1, oN (tl l r)]) := e3
  generalize (stp p (some (i, l))).1 = o2 at *
  generalize tl l r = w at *
  generalize m_stepped = F at *
  generalize m_Live__settle = F2 at *
  refine pIfF (P := fun o => outB 0 o = _) (eB_ok (rs_state rfl) rfl rfl) ?_
  refine pNx (P := fun o => outB 0 o = _) ?_
  refine pSeq (P := fun o => outB 0 o = _) (wr_step rfl (eCall_ok (aCons_ok (rd_program rfl) (aCons_ok (rd_state rfl) rfl)) rfl e3)) ?_
  simp only [List.set_cons_succ, List.set_cons_zero]
  have last : ∀ sd2 x1, F2 [.non] (lvD p o2 sd2 c a b) = .ok .non (lvD p' o' sd' c' a' b') → outB 0 ((sSeq (sExpM 0 "Live" "_settle" 1 F2 aNil) (sRetB 0 (eC (.bl true)))) [.dp (lvD p o2 sd2 c a b), x1]) = .ok (.bl true) (lvD p' o' sd' c' a' b') := fun sd2 x1 h2 => by
    refine pSeq (P := fun o => outB 0 o = _) (expM_ok rfl nin_settle rfl rfl h2) ?_
    rw [lretB_ok rfl rfl]
    exact outB_rt _ _
  cases w with
  | none =>
    refine pIfF (P := fun o => outB 0 o = _) (eB_ok rfl rfl rfl) ?_
    refine pNx (P := fun o => outB 0 o = _) ?_
    rw [show (sd ++ (none : Option Nat).toList) = sd from List.append_nil _] at h
    exact last _ _ h
  | some n =>
    refine pIfT (P := fun o => outB 0 o = _) (eB_ok rfl rfl rfl) ?_
    refine pSeq (P := fun o => outB 0 o = _) (wr_said (k := n) rfl rfl hl) ?_
    simp only [List.set_cons_succ, List.set_cons_zero]
    exact last _ _ h
end
end K11

namespace K11
open PySem PySem.Spec PyProof.Rows L2 Evl VS
/-! ### a Live begun, asked -/
theorem sFd_ok {i : Nat} {c f : Str} {fa : FE} {ρ : Ev'} {t : T} {ns : List Str} {ds : List D} (h : ρ[i]? = some (.dp (.ob c ns ds))) (hl : ns.length < 900) (e : fa ρ = .ok t) : sFd i c f fa ρ = .nx (ρ.set i (.dp (.ob c (fPut f (.sh t) ns ds).1 (fPut f (.sh t) ns ds).2))) := by
  unfold sFd; rw [e]
  show (match ρ[i]? with | some (.dp (.ob c' ns ds)) => _ | _ => _) = _
  rw [h]
  show (if c = c ∧ ns.length < 900 then _ else _) = _
  rw [if_pos ⟨rfl, hl⟩]
theorem sFdN_ok {i : Nat} {c f : Str} {fa : FE} {ρ : Ev'} {l : List T} {ns : List Str} {ds : List D} (h : ρ[i]? = some (.dp (.ob c ns ds))) (hl : ns.length < 900) (e : fa ρ = .ok (.lst l)) : sFdN i c f fa ρ = .nx (ρ.set i (.dp (.ob c (fPut f (.ls l) ns ds).1 (fPut f (.ls l) ns ds).2))) := by
  unfold sFdN; rw [e]
  show (match T.lst l, ρ[i]? with | .lst l, some (.dp (.ob c' ns ds)) => _ | _, _ => _) = _
  rw [h]
  show (if c = c ∧ ns.length < 900 then _ else _) = _
  rw [if_pos ⟨rfl, hl⟩]
theorem init_ok {p : Pg} {l : List Nat} (hp : p.ok) (hl : Nums p l) : m_Live___init__ [.non, p.t, numsT l] (.ob "Live" [] []) = .ok .non (lvD p (some (0, l)) [] 0 .non .non) := by
  have h1 := need_program_ok hp
  have h2 := is_numbers_ok hl hp.b3
  have h3 := copied_ok p
  show outB 0 (b_Live___init__ [.dp (.ob "Live" [] []), .sh p.t, .sh (numsT l)]) = _
  unfold b_Live___init__
  generalize m_need_program = F1 at *
  generalize m_is_numbers = F2 at *
  generalize m_copied = F3 at *
  refine pExp (P := fun o => outB 0 o = _) (eCall_ok (aCons_ok rfl rfl) rfl h1) ?_
  refine pIfF (P := fun o => outB 0 o = _) (eNot_bl (a := true) (eCall_ok (aCons_ok rfl (aCons_ok rfl rfl)) rfl h2)) ?_
  refine pNx (P := fun o => outB 0 o = _) ?_
  refine pSeq (P := fun o => outB 0 o = _) (sFd_ok rfl (by show 0 < 900; decide) (eCall_ok (aCons_ok rfl rfl) rfl h3)) ?_
  refine pSeq (P := fun o => outB 0 o = _) (sFd_ok rfl (by show 1 < 900; decide) (eTup_ok (aCons_ok rfl (aCons_ok rfl rfl)) (by show 2 ≤ 1000; decide))) ?_
  refine pSeq (P := fun o => outB 0 o = _) (sFdN_ok rfl (by show 2 < 900; decide) (eLst_ok rfl (by show 0 ≤ 1000; decide))) ?_
  refine pSeq (P := fun o => outB 0 o = _) (sFd_ok rfl (by show 3 < 900; decide) rfl) ?_
  refine pSeq (P := fun o => outB 0 o = _) (sFd_ok rfl (by show 4 < 900; decide) rfl) ?_
  exact pOne (P := fun o => outB 0 o = _) (sFd_ok rfl (by show 5 < 900; decide) rfl) (outB_nx rfl)
theorem gIn_sm_t {w : Str} (h : w = "stuck" ∨ w = "missed") : gIn false (.str w) (.tup [.str "stuck", .str "missed"]) = some (.bl true) := by rcases h with rfl | rfl <;> rfl
theorem gIn_sm_f {w : Str} (h : w = "comes" ∨ w = "over") : gIn false (.str w) (.tup [.str "stuck", .str "missed"]) = some (.bl false) := by rcases h with rfl | rfl <;> rfl
section
variable {p q : Pg} {ps : List Pl} {s : Nat × List Nat} {sd : List Nat} {c : Nat}
/-- refused -/
theorem ask_no {w : Str} {l : List T} (hp : p.ok) (hq : q.ok) (hps : Pls p q ps) (hs : St p s.1 s.2) (ht : metT p ps s = .tup (.str w :: l)) (hw : w = "stuck" ∨ w = "missed") :
    m_Live_ask [.non, q.t, .lst (ps.map Pl.t)] (lvD p (some s) sd c .non .non) = .ex "Unsafe" [metT p ps s] (lvD p (some s) sd c .non .non) := by
  have h1 := need_places_ok hp hq hps
  have h2 := met_ok hp hq hps hs
  have h2 : m_met [p.t, .lst (ps.map Pl.t), oS (some s)] = .ok (metT p ps s) := h2
  show outB 0 (b_Live_ask [.dp (lvD p (some s) sd c .non .non), .sh q.t, .sh (.lst (ps.map Pl.t)), .un, .un]) = _
  unfold b_Live_ask
  generalize m_need_places = F1 at *
  generalize m_met = F2 at *
  have g0 : gIx (metT p ps s) (.int 0) = some (.str w) := by rw [ht, gIx_tup, atI_0]; rfl
  refine pIfF (P := fun o => outB 0 o = _) (eB_ok (rs_state rfl) rfl rfl) ?_
  refine pNx (P := fun o => outB 0 o = _) ?_
  refine pIfF (P := fun o => outB 0 o = _) (eRd_ok rfl nin_waits (waits_ok rfl)) ?_
  refine pNx (P := fun o => outB 0 o = _) ?_
  refine pSet (P := fun o => outB 0 o = _) (eCall_ok (aCons_ok (rd_program rfl) (aCons_ok rfl (aCons_ok rfl rfl))) rfl h1) ?_
  simp only [List.set_cons_succ, List.set_cons_zero]
  refine pSet (P := fun o => outB 0 o = _) (eCall_ok (aCons_ok (rd_program rfl) (aCons_ok rfl (aCons_ok (rd_state rfl) rfl))) rfl h2) ?_
  simp only [List.set_cons_succ, List.set_cons_zero]
  refine pIfT (P := fun o => outB 0 o = _) (eB_ok (eB_ok rfl rfl g0) (eTup_ok (aCons_ok rfl (aCons_ok rfl rfl)) (by show 2 ≤ 1000; decide)) (gIn_sm_t hw)) ?_
  have e : sRaiseP "Unsafe" (eV 4) [.dp (lvD p (some s) sd c .non .non), .sh q.t, .sh (.lst (ps.map Pl.t)), .sh (.lst (ps.map Pl.t)), .sh (metT p ps s)] = .ex "Unsafe" [metT p ps s] [.dp (lvD p (some s) sd c .non .non), .sh q.t, .sh (.lst (ps.map Pl.t)), .sh (.lst (ps.map Pl.t)), .sh (metT p ps s)] := rfl
  rw [sSeq_ex e]
  exact outB_ex rfl
/-- taken -/
theorem ask_yes {w : Str} {l : List T} {d' : D} (hp : p.ok) (hq : q.ok) (hps : Pls p q ps) (hs : St p s.1 s.2) (ht : metT p ps s = .tup (.str w :: l)) (hw : w = "comes" ∨ w = "over") (hd : m_Live__settle [.non] (lvD p (some s) sd c q.t (byT ps)) = .ok .non d') :
    m_Live_ask [.non, q.t, .lst (ps.map Pl.t)] (lvD p (some s) sd c .non .non) = .ok .non d' := by
  have h1 := need_places_ok hp hq hps
  have h2 := met_ok hp hq hps hs
  have h2 : m_met [p.t, .lst (ps.map Pl.t), oS (some s)] = .ok (metT p ps s) := h2
  have h3 := copied_ok q
  have h4 := by_row_ok hps.nd (by have := hps.len; have := hp.n20; omega)
  show outB 0 (b_Live_ask [.dp (lvD p (some s) sd c .non .non), .sh q.t, .sh (.lst (ps.map Pl.t)), .un, .un]) = _
  unfold b_Live_ask
  generalize m_need_places = F1 at *
  generalize m_met = F2 at *
  generalize m_copied = F3 at *
  generalize m_by_row = F4 at *
  generalize m_Live__settle = F5 at *
  have g0 : gIx (metT p ps s) (.int 0) = some (.str w) := by rw [ht, gIx_tup, atI_0]; rfl
  refine pIfF (P := fun o => outB 0 o = _) (eB_ok (rs_state rfl) rfl rfl) ?_
  refine pNx (P := fun o => outB 0 o = _) ?_
  refine pIfF (P := fun o => outB 0 o = _) (eRd_ok rfl nin_waits (waits_ok rfl)) ?_
  refine pNx (P := fun o => outB 0 o = _) ?_
  refine pSet (P := fun o => outB 0 o = _) (eCall_ok (aCons_ok (rd_program rfl) (aCons_ok rfl (aCons_ok rfl rfl))) rfl h1) ?_
  simp only [List.set_cons_succ, List.set_cons_zero]
  refine pSet (P := fun o => outB 0 o = _) (eCall_ok (aCons_ok (rd_program rfl) (aCons_ok rfl (aCons_ok (rd_state rfl) rfl))) rfl h2) ?_
  simp only [List.set_cons_succ, List.set_cons_zero]
  refine pIfF (P := fun o => outB 0 o = _) (eB_ok (eB_ok rfl rfl g0) (eTup_ok (aCons_ok rfl (aCons_ok rfl rfl)) (by show 2 ≤ 1000; decide)) (gIn_sm_f hw)) ?_
  refine pNx (P := fun o => outB 0 o = _) ?_
  refine pSeq (P := fun o => outB 0 o = _) (wr_second rfl (eCall_ok (aCons_ok rfl rfl) rfl h3)) ?_
  simp only [List.set_cons_succ, List.set_cons_zero]
  refine pSeq (P := fun o => outB 0 o = _) (wr_there rfl (eCall_ok (aCons_ok rfl rfl) rfl h4)) ?_
  simp only [List.set_cons_succ, List.set_cons_zero]
  exact pOne (P := fun o => outB 0 o = _) (expM_ok rfl nin_settle rfl rfl hd) (outB_nx rfl)
end
/-! ### the way to a place -/
inductive Way (p : Pg) (ps : List Pl) : Option (Nat × List Nat) → Nat → Option (Pl × List Nat) → Prop
  | over : Way p ps none 0 none
  | here {s : Nat × List Nat} {x : Pl} {l : List Nat} (h : ps.find? (fun x => x.row == s.1) = some x) (ht : turnN s.2 x.rules = some l) : Way p ps (some s) 0 (some (x, l))
  | step {s : Nat × List Nat} {K : Nat} {r : Option (Pl × List Nat)} (h : ps.find? (fun x => x.row == s.1) = none) (w : Way p ps (stp p (some s)).1 K r) : Way p ps (some s) (K + 1) r
theorem stp_nxt (p : Pg) (s : Nat × List Nat) : (stp p (some s)).1 = nxt p s := by
  unfold stp nxt
  obtain ⟨i, l⟩ := s
  dsimp only
  cases p.rows[i]? <;> rfl
def wayT (n : Nat) (r : Option (Pl × List Nat)) : T := .tup [.str (if r.isSome then "comes" else "over"), .int (n : Nat)]
theorem met_way {p : Pg} {ps : List Pl} : ∀ (n : Nat) (vis : List (Nat × List Nat)) (o : Option (Nat × List Nat)) (t : T), metF p ps n vis o = some t →
    (∃ K r, Way p ps o K r ∧ t = wayT (vis.length + K) r) ∨ (∃ k : Nat, t = .tup [.str "stuck", .int (k : Nat)]) ∨ ∃ i j : Int, t = .tup [.str "missed", .int i, .int j]
  | 0, _, _, _, h => by cases h
  | _ + 1, vis, none, t, h => by
    unfold metF at h
    cases h
    exact .inl ⟨0, none, .over, rfl⟩
  | n + 1, vis, some s, t, h => by
    unfold metF at h
    split at h
    · cases h
      exact .inr (.inr ⟨_, _, rfl⟩)
    · split at h
      · rename_i x hx
        cases h
        cases e : turnN s.2 x.rules with
        | none => exact .inr (.inl ⟨vis.length, rfl⟩)
        | some l => exact .inl ⟨0, some (x, l), .here hx e, rfl⟩
      · rename_i hx
        rcases met_way n _ _ t h with ⟨K, r, w, e⟩ | z | z
        · refine .inl ⟨K + 1, r, .step hx (by rw [stp_nxt]; exact w), ?_⟩
          rw [e, List.length_append, List.length_singleton, Nat.add_assoc, Nat.add_comm 1 K]
        · exact .inr (.inl z)
        · exact .inr (.inr z)
theorem goes_succ (p : Pg) : ∀ (n : Nat) (s : Option (Nat × List Nat)) (acc : List Nat), goes p (n + 1) s acc = ((stp p (goes p n s acc).1).1, (goes p n s acc).2 ++ (stp p (goes p n s acc).1).2)
  | 0, _, _ => rfl
  | n + 1, s, acc => by
    show goes p (n + 1) (stp p s).1 (acc ++ (stp p s).2) = _
    rw [goes_succ p n]
    rfl
theorem goes_add (p : Pg) (m : Nat) : ∀ (n : Nat) (s : Option (Nat × List Nat)) (acc : List Nat), goes p (n + m) s acc = goes p m (goes p n s acc).1 (goes p n s acc).2
  | 0, _, _ => by rw [Nat.zero_add]; rfl
  | n + 1, s, acc => by
    rw [Nat.add_right_comm]
    show goes p (n + m) (stp p s).1 (acc ++ (stp p s).2) = _
    rw [goes_add p m n]
    rfl
theorem goes_acc (p : Pg) : ∀ (n : Nat) (s : Option (Nat × List Nat)) (acc : List Nat), goes p n s acc = ((goes p n s []).1, acc ++ (goes p n s []).2)
  | 0, s, acc => by show (s, acc) = (s, acc ++ []); rw [List.append_nil]
  | n + 1, s, acc => by
    show goes p n (stp p s).1 (acc ++ (stp p s).2) = ((goes p n (stp p s).1 ([] ++ (stp p s).2)).1, acc ++ (goes p n (stp p s).1 ([] ++ (stp p s).2)).2)
    rw [goes_acc p n _ (acc ++ (stp p s).2), goes_acc p n _ ([] ++ (stp p s).2), List.nil_append, List.append_assoc]
theorem Way.goes {p : Pg} {ps : List Pl} (sd : List Nat) : ∀ (j : Nat) {o : Option (Nat × List Nat)} {K : Nat} {r : Option (Pl × List Nat)}, Way p ps o (j + K) r → Way p ps (goes p j o sd).1 K r
  | 0, o, K, r, w => by rw [Nat.zero_add] at w; exact w
  | j + 1, o, K, r, w => by
    rw [Nat.add_right_comm] at w
    cases w with
    | step h w =>
      exact Way.goes _ j w
section
variable {p q : Pg} {ps : List Pl} {c : Nat} {K : Nat} {r : Option (Pl × List Nat)}
/-- the Live behind j steps more, asked at o -/
def liveAt (p q : Pg) (ps : List Pl) (c : Nat) (K : Nat) (r : Option (Pl × List Nat)) (o : Option (Nat × List Nat)) (sd : List Nat) (j : Nat) : D :=
  if j < K then lvD p (goes p j o sd).1 (goes p j o sd).2 c q.t (byT ps) else match r with
    | none => lvD p none (goes p K o sd).2 c .non .non
    | some (x, l) => lvD q (goes q (j - K) (some (x.other, l)) (goes p K o sd).2).1 (goes q (j - K) (some (x.other, l)) (goes p K o sd).2).2 (c + 1) .non .non
theorem liveAt_lv (o : Option (Nat × List Nat)) (sd : List Nat) (j : Nat) : ∃ p' o' sd' c' a' b', liveAt p q ps c K r o sd j = lvD p' o' sd' c' a' b' := by
  unfold liveAt
  split
  · exact ⟨_, _, _, _, _, _, rfl⟩
  · split <;> exact ⟨_, _, _, _, _, _, rfl⟩
theorem settle_way {o : Option (Nat × List Nat)} {sd : List Nat} (hq : q.ok) (hps : Pls p q ps) (hs : StO p o) (w : Way p ps o K r) : m_Live__settle [.non] (lvD p o sd c q.t (byT ps)) = .ok .non (liveAt p q ps c K r o sd 0) := by
  cases w with
  | over => exact settle_over
  | here h ht => exact settle_come hq hps hs h ht
  | @step s K r h w =>
    have e : liveAt p q ps c (K + 1) r (some s) sd 0 = lvD p (some s) sd c q.t (byT ps) := by
      unfold liveAt
      rw [if_pos (Nat.succ_pos K)]
      rfl
    rw [e]
    exact settle_on (q := q) h
theorem go_free {o : Option (Nat × List Nat)} {sd : List Nat} (hp : p.ok) (hs : StO p o) (hl : sd.length ≤ 4000) : ∃ b, m_Live_go [.non] (lvD p o sd c .non .non) = .ok (.bl b) (lvD p (stp p o).1 (sd ++ (stp p o).2) c .non .non) := by
  cases o with
  | none =>
    refine ⟨false, ?_⟩
    show _ = RB.ok (.bl false) (lvD p none (sd ++ []) c .non .non)
    rw [List.append_nil]
    exact go_over
  | some s =>
    refine ⟨true, go_on hp hs hl ⟨_, _, _, _, _, _, rfl⟩ ?_⟩
    generalize (stp p (some s)).1 = o2
    cases o2 with
    | none => exact settle_over
    | some s2 => exact settle_none
theorem shiftAt {s : Nat × List Nat} {sd : List Nat} (K : Nat) (j : Nat) : liveAt p q ps c K r (stp p (some s)).1 (sd ++ (stp p (some s)).2) j = liveAt p q ps c (K + 1) r (some s) sd (j + 1) := by
  unfold liveAt
  by_cases h : j < K
  · rw [if_pos h, if_pos (Nat.succ_lt_succ h)]
    rfl
  · rw [if_neg h, if_neg fun z => h (Nat.lt_of_succ_lt_succ z)]
    rw [Nat.add_sub_add_right]
    rfl
theorem go_way (hp : p.ok) (hq : q.ok) (hps : Pls p q ps) : ∀ (j : Nat) {K : Nat} {o : Option (Nat × List Nat)} {sd : List Nat}, StO p o → sd.length + j ≤ 3900 → Way p ps o K r → (∀ x l, r = some (x, l) → StO q (some (x.other, l))) →
    ∃ b, m_Live_go [.non] (liveAt p q ps c K r o sd j) = .ok (.bl b) (liveAt p q ps c K r o sd (j + 1)) := by
  intro j
  induction j with
  | zero =>
    intro K o sd hs hl w hr
    cases w with
    | over =>
      exact ⟨false, go_over⟩
    | @here s x l h ht =>
      exact go_free hq (hr x l rfl) (by show (sd).length ≤ 4000; omega)
    | @step s K r h w =>
      have h1 := settle_way (c := c) (sd := sd ++ (stp p (some s)).2) hq hps (stp_ok hp hs) w
      rw [shiftAt] at h1
      refine ⟨true, ?_⟩
      have e : liveAt p q ps c (K + 1) r (some s) sd 0 = lvD p (some s) sd c q.t (byT ps) := by
        unfold liveAt
        rw [if_pos (Nat.succ_pos K)]
        rfl
      rw [e]
      exact go_on hp hs (by omega) (liveAt_lv _ _ _) h1
  | succ j ih =>
    intro K o sd hs hl w hr
    cases w with
    | over => exact ⟨false, go_over⟩
    | @here s x l h ht =>
      have e : ∀ j, liveAt p q ps c 0 (some (x, l)) (some s) sd j = lvD q (goes q j (some (x.other, l)) sd).1 (goes q j (some (x.other, l)) sd).2 (c + 1) .non .non := fun j => rfl
      rw [e, e, goes_succ q (j + 1)]
      exact go_free hq (goes_ok hq _ _ _ (hr x l rfl)) (by have := goes_len q (j + 1) (some (x.other, l)) sd; omega)
    | @step s K r h w =>
      rw [← shiftAt, ← shiftAt]
      have h2 := stp_len p (some s)
      exact ih (stp_ok hp hs) (by rw [List.length_append]; omega) w hr
end
theorem w_le {p q : Pg} {l : List Nat} {r : Rl} {n : Nat} (h : r.ok p q) (e : r.w l = some n) : n ≤ q.M := by
  cases r with
  | is v => exact h n e
  | by_ b ns =>
    have e : (ns[(l[b]?).getD 0]?).getD none = some n := e
    cases z : ns[(l[b]?).getD 0]? with
    | none => rw [z] at e; cases e
    | some v =>
      rw [z] at e
      have e : v = some n := e
      rw [e] at z
      exact h.2.2 n (List.mem_of_getElem? z)
theorem turnN_len {p q : Pg} {l : List Nat} : ∀ {rs : List Rl} {l' : List Nat}, (∀ r ∈ rs, r.ok p q) → turnN l rs = some l' → l'.length = rs.length ∧ ∀ n ∈ l', n ≤ q.M
  | [], l', _, h => by
    cases h
    exact ⟨rfl, fun n m => by cases m⟩
  | r :: rs, l', ok, h => by
    unfold turnN at h
    split at h
    · rename_i n ns e1 e2
      cases h
      obtain ⟨h1, h2⟩ := turnN_len (fun r m => ok r (List.mem_cons_of_mem _ m)) e2
      refine ⟨by rw [List.length_cons, List.length_cons, h1], fun k m => ?_⟩
      rcases List.mem_cons.mp m with rfl | m
      · exact w_le (ok r List.mem_cons_self) e1
      · exact h2 k m
    · cases h
theorem turnN_nums {p q : Pg} {rs : List Rl} {l l' : List Nat} (h : Rls p q rs) (ht : turnN l rs = some l') : Nums q l' := by
  obtain ⟨h1, h2⟩ := turnN_len h.ok ht
  exact ⟨by rw [h1, h.len], h2⟩
/-- where the way ends, the place's other row and its numbers are a state -/
theorem Way.to {p q : Pg} {ps : List Pl} (hps : Pls p q ps) {o : Option (Nat × List Nat)} {K : Nat} {r : Option (Pl × List Nat)} (w : Way p ps o K r) : ∀ x l, r = some (x, l) → StO q (some (x.other, l)) := by
  induction w with
  | over => intro x l e; cases e
  | @here s x l h ht =>
    intro y m e
    cases e
    have hx := hps.ok x (List.mem_of_find?_eq_some h)
    exact ⟨hx.other, turnN_nums hx.rules ht⟩
  | step _ _ ih => exact ih
/-- the state there -/
theorem Way.at {p : Pg} {ps : List Pl} (sd : List Nat) : ∀ {K : Nat} {o : Option (Nat × List Nat)} {x : Pl} {l : List Nat}, Way p ps o K (some (x, l)) → ∃ s, (K11.goes p K o sd).1 = some s ∧ ps.find? (fun x => x.row == s.1) = some x ∧ turnN s.2 x.rules = some l := by
  intro K
  induction K generalizing sd with
  | zero =>
    intro o x l w
    cases w with
    | here h ht => exact ⟨_, rfl, h, ht⟩
  | succ K ih =>
    intro o x l w
    cases w with
    | @step s K r h w => exact ih _ w
theorem Way.over_at {p : Pg} {ps : List Pl} (sd : List Nat) : ∀ {K : Nat} {o : Option (Nat × List Nat)}, Way p ps o K none → (K11.goes p K o sd).1 = none := by
  intro K
  induction K generalizing sd with
  | zero =>
    intro o w
    cases w with
    | over => rfl
  | succ K ih =>
    intro o w
    cases w with
    | @step s K r h w => exact ih _ w
/-! ### asked, what is shown told -/
theorem try_rt {sub : Str → Option Bool} {i : Nat} {fb fs : FS} {ρ ρ1 : Ev'} {x : Str} {pl : List T} {t : T} (h1 : fb ρ = .ex x pl ρ1) (h2 : sub x = some true) (h3 : fs (ρ1.set i (.xn x pl)) = .rt t) : sTry sub i fb fs ρ = .rt t := by
  unfold sTry
  rw [h1]
  simp only [h2, h3]
theorem try_nx {sub : Str → Option Bool} {i : Nat} {fb fs : FS} {ρ ρ1 : Ev'} (h1 : fb ρ = .nx ρ1) : sTry sub i fb fs ρ = .nx ρ1 := by
  unfold sTry
  rw [h1]
section
variable {p q : Pg} {ps : List Pl} {s : Nat × List Nat} {sd : List Nat} {c : Nat}
theorem shown_no {w : Str} {l : List T} (hp : p.ok) (hq : q.ok) (hps : Pls p q ps) (hs : St p s.1 s.2) (ht : metT p ps s = .tup (.str w :: l)) (hw : w = "stuck" ∨ w = "missed") :
    m_law_shown [.non, q.t, .lst (ps.map Pl.t)] (lvD p (some s) sd c .non .non) = .ok (metT p ps s) (lvD p (some s) sd c .non .non) := by
  have h := ask_no (c := c) (sd := sd) hp hq hps hs ht hw
  show outB 0 (b_law_shown [.dp (lvD p (some s) sd c .non .non), .sh q.t, .sh (.lst (ps.map Pl.t)), .un]) = _
  unfold b_law_shown
  generalize m_Live_ask = F at *
  have e1 : sExpM 0 "Live" "ask" 3 F (aCons (eV 1) (aCons (eV 2) aNil)) [.dp (lvD p (some s) sd c .non .non), .sh q.t, .sh (.lst (ps.map Pl.t)), .un] = .ex "Unsafe" [metT p ps s] [.dp (lvD p (some s) sd c .non .non), .sh q.t, .sh (.lst (ps.map Pl.t)), .un] :=
    expM_ex rfl nin_ask (aCons_ok rfl (aCons_ok rfl rfl)) rfl h
  have e2 : sRetB 0 (eXf 3 "Unsafe") [.dp (lvD p (some s) sd c .non .non), .sh q.t, .sh (.lst (ps.map Pl.t)), .xn "Unsafe" [metT p ps s]] = .rt (.tup [metT p ps s, enc (lvD p (some s) sd c .non .non)]) := lretB_ok rfl rfl
  have e3 : sTry tr0_law_shown 3 (sExpM 0 "Live" "ask" 3 F (aCons (eV 1) (aCons (eV 2) aNil))) (sRetB 0 (eXf 3 "Unsafe")) [.dp (lvD p (some s) sd c .non .non), .sh q.t, .sh (.lst (ps.map Pl.t)), .un] = .rt (.tup [metT p ps s, enc (lvD p (some s) sd c .non .non)]) := try_rt e1 rfl e2
  rw [sSeq_rt e3]
  exact outB_rt _ _
theorem shown_yes {w : Str} {l : List T} {d' : D} (hp : p.ok) (hq : q.ok) (hps : Pls p q ps) (hs : St p s.1 s.2) (ht : metT p ps s = .tup (.str w :: l)) (hw : w = "comes" ∨ w = "over") (hl : ∃ p' o' sd' c' a' b', d' = lvD p' o' sd' c' a' b') (hd : m_Live__settle [.non] (lvD p (some s) sd c q.t (byT ps)) = .ok .non d') :
    m_law_shown [.non, q.t, .lst (ps.map Pl.t)] (lvD p (some s) sd c .non .non) = .ok .non d' := by
  have h := ask_yes hp hq hps hs ht hw hd
  obtain ⟨p', o', sd', c', a', b', rfl⟩ := hl
  show outB 0 (b_law_shown [.dp (lvD p (some s) sd c .non .non), .sh q.t, .sh (.lst (ps.map Pl.t)), .un]) = _
  unfold b_law_shown
  generalize m_Live_ask = F at *
  have e1 : sExpM 0 "Live" "ask" 3 F (aCons (eV 1) (aCons (eV 2) aNil)) [.dp (lvD p (some s) sd c .non .non), .sh q.t, .sh (.lst (ps.map Pl.t)), .un] = .nx [.dp (lvD p' o' sd' c' a' b'), .sh q.t, .sh (.lst (ps.map Pl.t)), .un] :=
    expM_ok rfl nin_ask (aCons_ok rfl (aCons_ok rfl rfl)) rfl h
  have e3 : sTry tr0_law_shown 3 (sExpM 0 "Live" "ask" 3 F (aCons (eV 1) (aCons (eV 2) aNil))) (sRetB 0 (eXf 3 "Unsafe")) [.dp (lvD p (some s) sd c .non .non), .sh q.t, .sh (.lst (ps.map Pl.t)), .un] = .nx [.dp (lvD p' o' sd' c' a' b'), .sh q.t, .sh (.lst (ps.map Pl.t)), .un] := try_nx e1
  rw [sSeq_nx e3, lretB_ok rfl rfl]
  exact outB_rt _ _
end
theorem setB_ok {i j n : Nat} {g : MirB} {fr : FA} {ρ : Ev'} {ts : List T} {d d' : D} {t : T} (h1 : fr ρ = .ok ts) (h2 : ts.length = n) (h3 : ρ[j]? = some (.dp d)) (h4 : encOk d = true) (h5 : g ts d = .ok t d') : sSetB i j n g fr ρ = .nx ((ρ.set j (.dp d')).set i (.sh t)) := by
  unfold sSetB runB
  rw [h1]
  simp only [h3]
  rw [if_pos h2, if_pos h4, h5]
theorem make_ok {i n : Nat} {c : Str} {g : MirB} {fr : FA} {ρ : Ev'} {ts : List T} {d' : D} (h1 : fr ρ = .ok ts) (h2 : ts.length + 1 = n) (h3 : g (.non :: ts) (.ob c [] []) = .ok .non d') : sMake i c n g fr ρ = .nx (ρ.set i (.dp d')) := by
  unfold sMake
  rw [h1]
  simp only
  rw [if_pos h2, h3]
theorem ok_oS (o : Option (Nat × List Nat)) : okD 20 (oS o) = true := by
  cases o with
  | none => exact okD_non _
  | some s =>
    show okD 20 (.tup [.int (s.1 : Nat), numsT s.2]) = true
    rw [okD_tup, okDs_cons, okDs_cons, okDs_nil, okD_int, ok_numsT]
    rfl
theorem ok_intsT (l : List Nat) : okD 20 (intsT l) = true := by
  unfold intsT
  rw [okD_lst]
  exact okNs 19 l
theorem ok_stuck (n : Nat) : okD 20 (.tup [.str "stuck", .int (n : Nat)]) = true := by
  have e : okD 19 (.str "stuck") = true := by rw [okD_str]; decide +kernel
  rw [okD_tup, okDs_cons, okDs_cons, okDs_nil, e, okD_int]
  rfl
theorem ok_missed (a b : Int) : okD 20 (.tup [.str "missed", .int a, .int b]) = true := by
  have e : okD 19 (.str "missed") = true := by rw [okD_str]; decide +kernel
  rw [okD_tup, okDs_cons, okDs_cons, okDs_cons, okDs_nil, e, okD_int, okD_int]
  rfl
end K11

namespace K11
open PySem PySem.Spec PyProof.Rows L2 Evl VS
theorem cutT_map {α β : Type} (f : α → β) (l : List α) (a b : Option Int) : cutT (l.map f) a b = (cutT l a b).map f := by
  unfold cutT
  rw [List.length_map, List.map_take, List.map_drop]
theorem cutT_sub {α : Type} (l : List α) (a b : Option Int) : (cutT l a b).Sublist l := by
  unfold cutT
  exact (List.take_sublist _ _).trans (List.drop_sublist _ _)
theorem cut_Pls {p q : Pg} {ps : List Pl} (h : Pls p q ps) (a b : Option Int) : Pls p q (cutT ps a b) :=
  ⟨fun x m => h.ok x ((cutT_sub ps a b).subset m), h.nd.sublist ((cutT_sub ps a b).map _), Nat.le_trans (cutT_sub ps a b).length_le h.len⟩
theorem pMid {P : Out → Prop} {f g : FS} {ρ : Ev'} (I : Ev' → Prop) (h : GoodN I (f ρ)) (k : ∀ ρ', I ρ' → P (g ρ')) : P (sSeq f g ρ) := by
  obtain ⟨ρ', e, i⟩ := h
  exact pSeq e (k ρ' i)
/-! ### a Live that has gone so many steps -/
theorem states_4000 {p : Pg} (h : p.ok) : p.rows.length * (p.M + 1) ^ p.B ≤ 2500 := by
  have h1 := begL_125 h (Nat.le_refl _)
  rw [begL_len] at h1
  exact Nat.le_trans (Nat.mul_le_mul h.n20 h1) (by decide)
theorem gone_ok {p : Pg} {l : List Nat} {n : Nat} (hp : p.ok) (hl : Nums p l) (hn : n ≤ 2500) : m_law_gone [p.t, numsT l, .int (n : Nat)] = .ok (enc (lvD p (goes p n (some (0, l)) []).1 (goes p n (some (0, l)) []).2 0 .non .non)) := by
  have hin := init_ok hp hl
  have h0 : StO p (some (0, l)) := ⟨hp.n1, hl⟩
  have hfree : ∀ o sd, StO p o → sd.length ≤ 4000 → ∃ b, m_Live_go [.non] (lvD p o sd 0 .non .non) = .ok (.bl b) (lvD p (stp p o).1 (sd ++ (stp p o).2) 0 .non .non) := fun o sd h1 h2 => go_free hp h1 h2
  suffices key : b_law_gone [.sh p.t, .sh (numsT l), .sh (.int (n : Nat)), .un, .un] = .rt (enc (lvD p (goes p n (some (0, l)) []).1 (goes p n (some (0, l)) []).2 0 .non .non)) by
    show (match b_law_gone [.sh p.t, .sh (numsT l), .sh (.int (n : Nat)), .un, .un] with | .rt t => Res.ok t | .ex x p _ => .ex x p | _ => .bad) = _
    rw [key]
  unfold b_law_gone
  generalize m_Live___init__ = F1 at *
  generalize m_Live_go = F2 at *
  refine pSeq (P := fun o => o = .rt _) (make_ok (aCons_ok rfl (aCons_ok rfl rfl)) rfl hin) ?_
  simp only [List.set_cons_succ, List.set_cons_zero]
  refine pForR (P := fun o => o = .rt _) (N := n) (fun j ρ => ∃ x4, ρ = [.sh p.t, .sh (numsT l), .sh (.int (n : Nat)), .dp (lvD p (goes p j (some (0, l)) []).1 (goes p j (some (0, l)) []).2 0 .non .non), x4]) (iRg_big rfl (by omega)) ⟨_, rfl⟩ ?_ ?_
  · rintro j hj ρ ⟨x4, rfl⟩
    simp only [List.set_cons_succ, List.set_cons_zero]
    have hj2 : (goes p j (some (0, l)) []).2.length ≤ 0 + j := goes_len p j (some (0, l)) []
    obtain ⟨b, hb⟩ := hfree _ _ (goes_ok hp j (some (0, l)) [] h0) (by omega : (goes p j (some (0, l)) []).2.length ≤ 4000)
    rw [goes_succ]
    exact ⟨_, expM_ok rfl nin_go rfl rfl hb, _, rfl⟩
  · rintro ρ ⟨x4, rfl⟩
    rfl
theorem setD_ok {i n : Nat} {g : Mir} {fr : FA} {ρ : Ev'} {ts : List T} {d : D} (h1 : fr ρ = .ok ts) (h2 : ts.length = n) (h3 : g ts = .ok (enc d)) (h4 : encOk d = true) : sSetD i n g fr ρ = .nx (ρ.set i (.dp d)) := by
  unfold sSetD
  rw [h1]
  simp only
  rw [if_pos h2, h3]
  simp only [dec_enc h4]
theorem ifB_f {j n : Nat} {g : MirB} {fr : FA} {f1 f2 : FS} {ρ : Ev'} {ts : List T} {d d' : D} (h1 : fr ρ = .ok ts) (h2 : ts.length = n) (h3 : ρ[j]? = some (.dp d)) (h4 : encOk d = true) (h5 : g ts d = .ok .non d') : sIfB j n g fr f1 f2 ρ = f2 (ρ.set j (.dp d')) := by
  unfold sIfB
  rw [runB_ok h1 h2 h3 h4 h5]
  rfl
theorem goes_itr (p : Pg) : ∀ (n : Nat) (o : Option (Nat × List Nat)) (acc : List Nat), (goes p n o acc).1 = itr p n o
  | 0, _, _ => rfl
  | n + 1, none, acc => by rw [goes_none, itr_none]
  | n + 1, some s, acc => by
    show (goes p n (stp p (some s)).1 (acc ++ (stp p (some s)).2)).1 = itr p n (nxt p s)
    rw [goes_itr p n, stp_nxt]
/-- .. within so many steps as there are states -/
theorem met_wayK {p : Pg} {ps : List Pl} (hp : p.ok) : ∀ (n : Nat) (vis : List (Nat × List Nat)) (o : Option (Nat × List Nat)) (t : T), metF p ps n vis o = some t → vis.Nodup → StA p vis → StO p o →
    (∃ K r, Way p ps o K r ∧ t = wayT (vis.length + K) r ∧ vis.length + K ≤ p.rows.length * (p.M + 1) ^ p.B) ∨ (∃ k : Nat, t = .tup [.str "stuck", .int (k : Nat)]) ∨ ∃ i j : Int, t = .tup [.str "missed", .int i, .int j]
  | 0, _, _, _, h, _, _, _ => by cases h
  | _ + 1, vis, none, t, h, nd, st, _ => by
    unfold metF at h
    cases h
    exact .inl ⟨0, none, .over, rfl, states_le nd st⟩
  | n + 1, vis, some s, t, h, nd, st, hs => by
    unfold metF at h
    split at h
    · cases h
      exact .inr (.inr ⟨_, _, rfl⟩)
    · rename_i hm
      split at h
      · rename_i x hx
        cases h
        cases e : turnN s.2 x.rules with
        | none => exact .inr (.inl ⟨vis.length, rfl⟩)
        | some l => exact .inl ⟨0, some (x, l), .here hx e, rfl, states_le nd st⟩
      · rename_i hx
        obtain ⟨nd2, st2⟩ := vis_snoc nd st hs hm
        rcases met_wayK hp n _ _ t h nd2 st2 (nxt_ok hp hs) with ⟨K, r, w, e, b⟩ | z | z
        · rw [List.length_append, List.length_singleton, Nat.add_assoc, Nat.add_comm 1 K] at e b
          exact .inl ⟨K + 1, r, .step hx (by rw [stp_nxt]; exact w), e, b⟩
        · exact .inr (.inl z)
        · exact .inr (.inr z)
theorem gNe_run {w : Str} {b : List Nat} {k : Nat} (hw : w = "stuck" ∨ w = "missed") : gNe (.tup [.str w, numsT b, .int (k : Nat)]) (.tup [.str "safe"]) = some (.bl true) := by
  have o1 : okD 20 (.tup [.str w, numsT b, .int (k : Nat)]) = true := by
    have e : okD 19 (.str w) = true := by rcases hw with rfl | rfl <;> (rw [okD_str]; decide +kernel)
    rw [okD_tup, okDs_cons, okDs_cons, okDs_cons, okDs_nil, e, okD_int, ok_numsT]
    rfl
  have o2 : okD 20 (.tup [.str "safe"]) = true := by decide +kernel
  have e : eqT (.tup [.str w, numsT b, .int (k : Nat)]) (.tup [.str "safe"]) = false := by
    rw [eqT_tup, eqTs_cons]
    rcases hw with rfl | rfl <;> rfl
  unfold gNe
  rw [o1, o2, e]
  rfl
theorem isNon_way (K : Nat) (r : Option (Pl × List Nat)) : gNotN' (wayT K r) .non = some (.bl true) := rfl
theorem law_ok (ns : List Int) : m_law [.fro ns] = .ok (.bl true) := by
  obtain ⟨c0, k0⟩ := cell_ok ns 0
  obtain ⟨c1, k1⟩ := cell_ok ns 1
  obtain ⟨c2, k2⟩ := cell_ok ns 2
  obtain ⟨c3, k3⟩ := cell_ok ns 3
  obtain ⟨c4, k4⟩ := cell_ok ns 4
  have k0 : m_law_cell_at [.fro ns, .int 0] = .ok (.int c0) := k0
  have k1 : m_law_cell_at [.fro ns, .int 1] = .ok (.int c1) := k1
  have k2 : m_law_cell_at [.fro ns, .int 2] = .ok (.int c2) := k2
  have k3 : m_law_cell_at [.fro ns, .int 3] = .ok (.int c3) := k3
  have k4 : m_law_cell_at [.fro ns, .int 4] = .ok (.int c4) := k4
  obtain ⟨p, hp1, hp, _⟩ := program_ok c0
  obtain ⟨q, hq1, hq, _⟩ := program_ok c1
  obtain ⟨ps0, hps1, hps0⟩ := places_ok c2 hp hq
  obtain ⟨l, hl1, hl⟩ := numbers_ok hp c3
  obtain ⟨n, en, ln⟩ := mod_nat c4 31 (by decide)
  have hS := states_4000 hp
  have hst := law_states_ok hp
  have hlook : ∀ ps : List Pl, Pls p q ps → ∃ t, m_looked [p.t, q.t, .lst (ps.map Pl.t)] = .ok t ∧ LookQ p ps t := fun ps h => looked_ok hp hq h
  have hgone : ∀ (l : List Nat) (n : Nat), Nums p l → n ≤ 2500 → m_law_gone [p.t, numsT l, .int (n : Nat)] = .ok (enc (lvD p (goes p n (some (0, l)) []).1 (goes p n (some (0, l)) []).2 0 .non .non)) := fun l n h1 h2 => gone_ok hp h1 h2
  refine fDef_rt ?_
  show b_law [.sh (.fro ns), .un, .un, .un, .un, .un, .un, .un] = _
  unfold b_law
  generalize m_law_program = F1 at *
  generalize m_law_cell_at = F2 at *
  generalize m_law_places = F3 at *
  generalize m_law_numbers = F4 at *
  generalize m_looked = F5 at *
  generalize m_law_gone = F6 at *
  generalize m_law_states = F7 at *
  have kc : ∀ (k : Int) (z : Int) ρ, F2 [.fro ns, .int k] = .ok (.int z) → eCall 2 F2 (aCons (eV 0) (aCons (eC (.int k)) aNil)) (.sh (.fro ns) :: ρ) = .ok (.int z) := fun k z ρ h => eCall_ok (aCons_ok rfl (aCons_ok rfl rfl)) rfl h
  refine pSet (P := fun o => o = .rt (.bl true)) (eCall_ok (aCons_ok (kc _ _ _ k0) rfl) rfl hp1) ?_
  simp only [List.set_cons_succ, List.set_cons_zero]
  refine pSet (P := fun o => o = .rt (.bl true)) (eCall_ok (aCons_ok (kc _ _ _ k1) rfl) rfl hq1) ?_
  simp only [List.set_cons_succ, List.set_cons_zero]
  refine pSet (P := fun o => o = .rt (.bl true)) (eCall_ok (aCons_ok (kc _ _ _ k2) (aCons_ok rfl (aCons_ok rfl rfl))) rfl hps1) ?_
  simp only [List.set_cons_succ, List.set_cons_zero]
  refine pMid (P := fun o => o = .rt (.bl true)) (fun ρ => ∃ ps : List Pl, Pls p q ps ∧ ρ = [.sh (.fro ns), .sh p.t, .sh q.t, .sh (.lst (ps.map Pl.t)), .un, .un, .un, .un]) ?_ ?_
  · refine pIf (P := GoodN _) (b := decide (c4 / 31 % 3 = 1)) (eB_ok (eB_ok (eB_ok (kc _ _ _ k4) rfl (gDiv_ok (by decide) (by decide))) rfl (gMod_ok (by decide))) rfl (gEq_int _ _)) (fun _ => ?_) (fun _ => ⟨_, rfl, ps0, hps0, rfl⟩)
    have hsl : (eSl (eW 3) oNone (oSome (eC (.int 1)))) [.sh (.fro ns), .sh p.t, .sh q.t, .sh (.lst (ps0.map Pl.t)), .un, .un, .un, .un] = .ok (.lst ((cutT ps0 none (some 1)).map Pl.t)) := by
      rw [← cutT_map]
      rfl
    rw [sSet_ok hsl]
    exact ⟨_, rfl, _, cut_Pls hps0 _ _, rfl⟩
  rintro ρ ⟨ps, hps, rfl⟩
  obtain ⟨t, ht, hq2⟩ := hlook ps hps
  refine pSet (P := fun o => o = .rt (.bl true)) (eCall_ok (aCons_ok rfl (aCons_ok rfl (aCons_ok rfl rfl))) rfl ht) ?_
  simp only [List.set_cons_succ, List.set_cons_zero]
  have hW : ∀ s, St p s.1 s.2 → ∃ w z, metT p ps s = .tup (.str w :: z) ∧ Wd p ps (some s) w := fun s hs => metT_wd hp hs
  rcases hq2 with ⟨rfl, F, hF, hFb⟩ | ⟨w, b, k, s, rfl, hbm, hw, hk, hs, hd, hlt⟩
  · refine pIfF (P := fun o => o = .rt (.bl true)) (eB_ok rfl (eTup_ok (aCons_ok rfl rfl) (by show 1 ≤ 1000; decide)) (gNe_refl (by decide +kernel))) ?_
    refine pNx (P := fun o => o = .rt (.bl true)) ?_
    have hg := hgone l n hl (by omega)
    refine pSeq (P := fun o => o = .rt (.bl true)) (setD_ok (aCons_ok rfl (aCons_ok (eCall_ok (aCons_ok (kc _ _ _ k3) (aCons_ok rfl rfl)) rfl hl1) (aCons_ok (eB_ok (kc _ _ _ k4) rfl (by rw [gMod_ok (by decide), en])) rfl))) rfl hg rfl) ?_
    simp only [List.set_cons_succ, List.set_cons_zero]
    have hmem : ∀ x, (goes p n (some (0, l)) []).1 = some x → x ∈ F := fun x e => hF.itr n (0, l) x (hFb l (begL_mem.mpr hl)) (by rw [← goes_itr p n _ []]; exact e)
    have hsd : (goes p n (some (0, l)) []).2.length ≤ 0 + n := goes_len p n (some (0, l)) []
    generalize (goes p n (some (0, l)) []).2 = sd at *
    generalize (goes p n (some (0, l)) []).1 = o at *
    cases o with
    | none =>
      refine pIfT (P := fun o => o = .rt (.bl true)) (eB_ok (eRd_ok rfl nin_state gstate_ok) rfl rfl) ?_
      exact pRetS (P := fun o => o = .rt (.bl true)) rfl rfl
    | some s =>
      have ms := hmem s rfl
      have hs := hF.st s ms
      refine pIfF (P := fun o => o = .rt (.bl true)) (eB_ok (eRd_ok rfl nin_state gstate_ok) rfl rfl) ?_
      refine pNx (P := fun o => o = .rt (.bl true)) ?_
      obtain ⟨w, z, ew, hwd⟩ := hW s hs
      have hw := Good_not (hF.good s ms) hwd
      obtain ⟨K, r, wy, hK⟩ : ∃ K r, Way p ps (some s) K r ∧ K ≤ p.rows.length * (p.M + 1) ^ p.B := by
        rcases met_wayK hp _ _ _ _ (metT_eq hp ps hs) List.nodup_nil (fun x m => by cases m) hs with ⟨K, r, a, _, b⟩ | ⟨i, e⟩ | ⟨i, j, e⟩
        · rw [List.length_nil, Nat.zero_add] at b
          exact ⟨K, r, a, b⟩
        · rw [ew] at e
          injection e with e
          injection e with e _
          injection e with e
          rcases hw with rfl | rfl <;> exact absurd e (by decide +kernel)
        · rw [ew] at e
          injection e with e
          injection e with e _
          injection e with e
          rcases hw with rfl | rfl <;> exact absurd e (by decide +kernel)
      have hto := wy.to hps
      have hset := settle_way (c := 0) (sd := sd) hq hps (o := some s) hs wy
      have hsh := shown_yes hp hq hps hs ew hw (liveAt_lv _ _ _) hset
      have hgo2 : ∀ j, j < K → ∃ b, m_Live_go [.non] (liveAt p q ps 0 K r (some s) sd j) = .ok (.bl b) (liveAt p q ps 0 K r (some s) sd (j + 1)) := fun j hj => go_way hp hq hps j (o := some s) hs (by omega) wy hto
      generalize m_law_shown = F8 at *
      have henc : encOk (lvD p (some s) sd 0 .non .non) = true := rfl
      refine pSeq (P := fun o => o = .rt (.bl true)) (ifB_f (aCons_ok rfl (aCons_ok rfl (aCons_ok rfl rfl))) rfl rfl henc hsh) ?_
      simp only [List.set_cons_succ, List.set_cons_zero]
      generalize p.rows.length * (p.M + 1) ^ p.B = S at *
      refine pForR (P := fun o => o = .rt (.bl true)) (N := S) (fun j ρ => ∃ x7, ρ = [.sh (.fro ns), .sh p.t, .sh q.t, .sh (.lst (ps.map Pl.t)), .sh (.tup [.str "safe"]), .dp (liveAt p q ps 0 K r (some s) sd (min j K)), .un, x7]) (iRg_big (eCall_ok (aCons_ok rfl rfl) rfl hst) (by omega)) ⟨_, by rw [Nat.zero_min]⟩ ?_ ?_
      · rintro j hj ρ ⟨x7, rfl⟩
        simp only [List.set_cons_succ, List.set_cons_zero]
        by_cases hjK : j < K
        · obtain ⟨b, hb⟩ := hgo2 j hjK
          have e1 : min j K = j := Nat.min_eq_left (by omega)
          have e2 : min (j + 1) K = j + 1 := Nat.min_eq_left (by omega)
          have eL : liveAt p q ps 0 K r (some s) sd j = lvD p (goes p j (some s) sd).1 (goes p j (some s) sd).2 0 q.t (byT ps) := by
            unfold liveAt
            rw [if_pos hjK]
          rw [eL] at hb
          rw [e1, e2, eL]
          exact ⟨_, ifE_t (eRd_ok rfl nin_waits (waits_ok rfl)) (expM_ok rfl nin_go rfl rfl hb), _, rfl⟩
        · have e1 : min j K = K := Nat.min_eq_right (by omega)
          have e2 : min (j + 1) K = K := Nat.min_eq_right (by omega)
          have eL : ∃ p' o' sd' c', liveAt p q ps 0 K r (some s) sd K = lvD p' o' sd' c' .non .non := by
            unfold liveAt
            rw [if_neg (Nat.lt_irrefl K)]
            split <;> exact ⟨_, _, _, _, rfl⟩
          obtain ⟨p', o', sd', c', eL⟩ := eL
          rw [e1, e2, eL]
          exact ⟨_, ifE_f (eRd_ok rfl nin_waits (waits_ok rfl)) rfl, _, rfl⟩
      · rintro ρ ⟨x7, rfl⟩
        have e1 : min S K = K := Nat.min_eq_right hK
        rw [e1]
        cases r with
        | none =>
          have eL : liveAt p q ps 0 K none (some s) sd K = lvD p none (goes p K (some s) sd).2 0 .non .non := by
            unfold liveAt
            rw [if_neg (Nat.lt_irrefl K)]
          rw [eL]
          exact pRet (P := fun o => o = .rt (.bl true)) (eAnd_bl (a := true) (b := true) (eNot_bl (a := false) (eRd_ok rfl nin_waits (waits_ok rfl))) fun _ => eOr_bl (a := true) (b := true) (eB_ok (eRd_ok rfl nin_state gstate_ok) rfl rfl) fun z => by cases z) rfl
        | some y =>
          obtain ⟨x, lx⟩ := y
          have eL : liveAt p q ps 0 K (some (x, lx)) (some s) sd K = lvD q (some (x.other, lx)) (goes p K (some s) sd).2 1 .non .non := by
            unfold liveAt
            rw [if_neg (Nat.lt_irrefl K), Nat.sub_self]
            rfl
          rw [eL]
          exact pRet (P := fun o => o = .rt (.bl true)) (eAnd_bl (a := true) (b := true) (eNot_bl (a := false) (eRd_ok rfl nin_waits (waits_ok rfl))) fun _ => eOr_bl (a := false) (b := true) (eB_ok (eRd_ok rfl nin_state gstate_ok) rfl rfl) fun _ => eB_ok (eRd_ok rfl nin_changed gchanged_ok) rfl (gEq_int _ _)) rfl
  · have hN : Nums p b := begL_mem.mp hbm
    refine pIfT (P := fun o => o = .rt (.bl true)) (eB_ok rfl (eTup_ok (aCons_ok rfl rfl) (by show 1 ≤ 1000; decide)) (gNe_run hw)) ?_
    have hg := hgone b k hN (by omega)
    have e1 : (goes p k (some (0, b)) []).1 = some s := by rw [goes_itr]; exact hk
    rw [e1] at hg
    generalize (goes p k (some (0, b)) []).2 = sd at *
    have g0 : gIx (.tup [.str w, numsT b, .int (k : Nat)]) (.int 0) = some (.str w) := rfl
    have g1 : gIx (.tup [.str w, numsT b, .int (k : Nat)]) (.int 1) = some (numsT b) := rfl
    have g2 : gIx (.tup [.str w, numsT b, .int (k : Nat)]) (.int 2) = some (.int (k : Nat)) := rfl
    obtain ⟨w', z, ew, hwd⟩ := hW s hs
    obtain rfl := Wd_uniq hwd hd
    have hsh := shown_no (c := 0) (sd := sd) hp hq hps hs ew hw
    rw [ew] at hsh
    have h0 : gIx (.tup (.str w' :: z)) (.int 0) = some (.str w') := by rw [gIx_tup, atI_0]; rfl
    have ge : gEq (.str w') (.str w') = some (.bl true) := by rcases hw with rfl | rfl <;> exact gEq_refl (by decide +kernel)
    generalize m_law_shown = F8 at *
    have henc : encOk (lvD p (some s) sd 0 .non .non) = true := rfl
    refine pAssoc (P := fun o => o = .rt (.bl true)) ?_
    refine pSeq (P := fun o => o = .rt (.bl true)) (setD_ok (aCons_ok rfl (aCons_ok (eB_ok rfl rfl g1) (aCons_ok (eB_ok rfl rfl g2) rfl))) rfl hg rfl) ?_
    simp only [List.set_cons_succ, List.set_cons_zero]
    refine pAssoc (P := fun o => o = .rt (.bl true)) ?_
    refine pIfF (P := fun o => o = .rt (.bl true)) (eB_ok (eRd_ok rfl nin_state gstate_ok) rfl rfl) ?_
    refine pNx (P := fun o => o = .rt (.bl true)) ?_
    refine pAssoc (P := fun o => o = .rt (.bl true)) ?_
    refine pSeq (P := fun o => o = .rt (.bl true)) (setB_ok (aCons_ok rfl (aCons_ok rfl (aCons_ok rfl rfl))) rfl rfl henc hsh) ?_
    simp only [List.set_cons_succ, List.set_cons_zero]
    exact pRetS (P := fun o => o = .rt (.bl true)) (eAnd_bl (a := true) (b := true) (eB_ok rfl rfl rfl) fun _ => eAnd_bl (a := true) (b := true) (eB_ok (eB_ok rfl rfl h0) (eB_ok rfl rfl g0) ge) fun _ => eNot_bl (a := false) (eRd_ok rfl nin_waits (waits_ok rfl))) rfl
end K11

open PySem PySem.W PyProof.Rows
theorem PySem.Challenge.cw_liveswap_k11_whole_safe_ones_come_holds : PySem.Challenge.rw_liveswap_k11_whole_safe_ones_come.Holds := by
  exact K11.holds_of fun nums _ => K11.law_ok nums
