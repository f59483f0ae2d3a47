import PyProof.Rows.All
import Wide.All
import OpenK.AllK
import Wide.FinOn
import HandS.ForMost
import HandS.ForExc
import HandS.Evl
import HandS.More
import HandS.TupAny
import HandS.IsInst
import HandS.ExcIs
import KE.KDictKeyed
import KE.KeyNested
import KE.GoesEnum
import HandS.Conv
import HandS.RaiseMore
import HandS.Defaults
import HandS.Head0
import HandS.Head1
import HandS.Head2
import HandS.HeadEnd
import HandS.HeadHook1
import HandS.HeadHook2
import HandS.HeadHook3
import HandS.HeadHook4
import HandS.SetBool
import HandS.Strs
import HandS.DictComp
import HandS.TupLen
import KE.KDictCopyH
import KE.KDictWalk
import HandS.Style
import PySem.Challenge.RW_liveswap_k08_whole_looked
set_option Elab.async false
set_option linter.all false
set_option maxRecDepth 100000
set_option maxHeartbeats 4000000
/-! VS: values as trees over the hand layer: what an expression evaluates to is a function of the frame's trees. -/
namespace VS
open PySem PySem.Spec PyProof.Rows L2 Evl

/-- what the text's written part says -/
structure KM where
  K : PySem.W.Frag
  mg : Str → Option Value
/-- a tree: data; a read-only list of ints (the script); a global by its name; a built-in type -/
inductive T where
  | non | bl (b : Bool) | int (i : Int) | str (x : Str) | tup (l : List T) | lst (l : List T) | dic (ks ws : List T) | fro (l : List Int) | fn (x : Str) | ty (n : String)
mutual
def Is (C : KM) (H : Hp) : T → V → Prop
  | .non, v => v = .non
  | .bl b, v => v = .bl b
  | .int i, v => v = .int i
  | .str x, v => v = .str x
  | .tup l, v => ∃ a vs, v = .ref a ∧ SqT C.K H a vs ∧ IsL C H l vs
  | .lst l, v => ∃ a vs, v = .ref a ∧ H a = some (.lst vs) ∧ IsL C H l vs
  | .dic ks ws, v => ∃ a kvs, v = .ref a ∧ H a = some (.dK kvs) ∧ IsL C H ks (kvs.map fun p => kV p.1) ∧ IsL C H ws (kvs.map fun p => p.2)
  | .fro ns, v => ∃ a, v = .ref a ∧ SqL C.K H a (ns.map V.int)
  | .fn x, v => ∃ u, C.mg x = some u ∧ RelV v u
  | .ty n, v => v = .ty n
def IsL (C : KM) (H : Hp) : List T → List V → Prop
  | [], vs => vs = []
  | t :: ts, vs => ∃ v r, vs = v :: r ∧ Is C H t v ∧ IsL C H ts r
end
mutual
theorem Is.mono {C : KM} {H H' : Hp} (e : Ex H H') : ∀ (t : T) (v : V), Is C H t v → Is C H' t v
  | .non, _, h => by unfold Is at h ⊢; exact h
  | .bl _, _, h => by unfold Is at h ⊢; exact h
  | .int _, _, h => by unfold Is at h ⊢; exact h
  | .str _, _, h => by unfold Is at h ⊢; exact h
  | .tup l, _, h => by
    unfold Is at h ⊢
    obtain ⟨a, vs, h1, h2, h3⟩ := h
    exact ⟨a, vs, h1, ex_t e h2, IsL.mono e l vs h3⟩
  | .lst l, _, h => by
    unfold Is at h ⊢
    obtain ⟨a, vs, h1, h2, h3⟩ := h
    exact ⟨a, vs, h1, e _ _ h2, IsL.mono e l vs h3⟩
  | .dic ks ws, _, h => by
    unfold Is at h ⊢
    obtain ⟨a, kvs, h1, h2, h3, h4⟩ := h
    exact ⟨a, kvs, h1, e _ _ h2, IsL.mono e ks _ h3, IsL.mono e ws _ h4⟩
  | .fro _, _, h => by
    unfold Is at h ⊢
    obtain ⟨a, h1, h2⟩ := h
    exact ⟨a, h1, ex_l e h2⟩
  | .fn _, _, h => by unfold Is at h ⊢; exact h
  | .ty _, _, h => by unfold Is at h ⊢; exact h
theorem IsL.mono {C : KM} {H H' : Hp} (e : Ex H H') : ∀ (ts : List T) (vs : List V), IsL C H ts vs → IsL C H' ts vs
  | [], _, h => by unfold IsL at h ⊢; exact h
  | t :: ts, _, h => by
    unfold IsL at h ⊢
    obtain ⟨v, r, h1, h2, h3⟩ := h
    exact ⟨v, r, h1, Is.mono e t v h2, IsL.mono e ts r h3⟩
end
theorem IsL.length {C : KM} {H : Hp} : ∀ {ts : List T} {vs : List V}, IsL C H ts vs → ts.length = vs.length
  | [], _, h => by
    unfold IsL at h
    subst h
    rfl
  | t :: ts, _, h => by
    unfold IsL at h
    obtain ⟨v, r, rfl, _, h3⟩ := h
    show ts.length + 1 = r.length + 1
    rw [IsL.length h3]
theorem IsL.get {C : KM} {H : Hp} : ∀ {ts : List T} {vs : List V} {i : Nat} {t : T}, IsL C H ts vs → ts[i]? = some t → ∃ v, vs[i]? = some v ∧ Is C H t v
  | [], _, _, _, _, e => by simp at e
  | t :: ts, _, 0, _, h, e => by
    unfold IsL at h
    obtain ⟨v, r, rfl, h2, _⟩ := h
    have e' : t = _ := Option.some.inj e
    subst e'
    exact ⟨v, rfl, h2⟩
  | t :: ts, _, i + 1, u, h, e => by
    unfold IsL at h
    obtain ⟨v, r, rfl, _, h3⟩ := h
    exact IsL.get (i := i) (t := u) h3 e
theorem IsL.getV {C : KM} {H : Hp} : ∀ {ts : List T} {vs : List V} {i : Nat} {v : V}, IsL C H ts vs → vs[i]? = some v → ∃ t, ts[i]? = some t ∧ Is C H t v
  | [], _, _, _, h, e => by
    unfold IsL at h
    subst h
    simp at e
  | t :: ts, _, 0, _, h, e => by
    unfold IsL at h
    obtain ⟨v, r, rfl, h2, _⟩ := h
    have e' : v = _ := Option.some.inj e
    subst e'
    exact ⟨t, rfl, h2⟩
  | t :: ts, _, i + 1, u, h, e => by
    unfold IsL at h
    obtain ⟨v, r, rfl, _, h3⟩ := h
    exact IsL.getV (i := i) (v := u) h3 e
theorem IsL.app {C : KM} {H : Hp} : ∀ {ts us : List T} {vs ws : List V}, IsL C H ts vs → IsL C H us ws → IsL C H (ts ++ us) (vs ++ ws)
  | [], _, _, _, h, k => by
    unfold IsL at h
    subst h
    exact k
  | t :: ts, us, _, ws, h, k => by
    unfold IsL at h
    obtain ⟨v, r, rfl, h2, h3⟩ := h
    show IsL C H (t :: (ts ++ us)) (v :: (r ++ ws))
    unfold IsL
    exact ⟨v, _, rfl, h2, IsL.app h3 k⟩
theorem IsL.one {C : KM} {H : Hp} {t : T} {v : V} (h : Is C H t v) : IsL C H [t] [v] := by
  unfold IsL
  exact ⟨v, [], rfl, h, by unfold IsL; rfl⟩
theorem IsL.cons {C : KM} {H : Hp} {t : T} {v : V} {ts : List T} {vs : List V} (h : Is C H t v) (k : IsL C H ts vs) : IsL C H (t :: ts) (v :: vs) := by
  unfold IsL
  exact ⟨v, vs, rfl, h, k⟩
theorem IsL.nil {C : KM} {H : Hp} : IsL C H [] [] := by unfold IsL; rfl
theorem IsL.take {C : KM} {H : Hp} : ∀ {ts : List T} {vs : List V} (n : Nat), IsL C H ts vs → IsL C H (ts.take n) (vs.take n)
  | _, _, 0, _ => by
    rw [List.take_zero, List.take_zero]
    exact IsL.nil
  | [], _, n + 1, h => by
    unfold IsL at h
    subst h
    exact IsL.nil
  | t :: ts, _, n + 1, h => by
    unfold IsL at h
    obtain ⟨v, r, rfl, h2, h3⟩ := h
    exact IsL.cons h2 (IsL.take n h3)
theorem IsL.drop {C : KM} {H : Hp} : ∀ {ts : List T} {vs : List V} (n : Nat), IsL C H ts vs → IsL C H (ts.drop n) (vs.drop n)
  | _, _, 0, h => h
  | [], _, n + 1, h => by
    unfold IsL at h
    subst h
    exact IsL.nil
  | t :: ts, _, n + 1, h => by
    unfold IsL at h
    obtain ⟨v, r, rfl, h2, h3⟩ := h
    exact IsL.drop n h3
theorem IsL.set {C : KM} {H : Hp} {t : T} {v : V} (k : Is C H t v) : ∀ {ts : List T} {vs : List V} (n : Nat), IsL C H ts vs → IsL C H (ts.set n t) (vs.set n v)
  | [], _, n, h => by
    unfold IsL at h
    subst h
    exact IsL.nil
  | _ :: ts, _, 0, h => by
    unfold IsL at h
    obtain ⟨_, r, rfl, h2, h3⟩ := h
    exact IsL.cons k h3
  | _ :: ts, _, n + 1, h => by
    unfold IsL at h
    obtain ⟨_, r, rfl, h2, h3⟩ := h
    exact IsL.cons h2 (IsL.set k n h3)
theorem IsL.nil_iff {C : KM} {H : Hp} {ts : List T} {vs : List V} (h : IsL C H ts vs) : vs = [] ↔ ts = [] := by
  have e := h.length
  cases ts with
  | nil => cases vs with
    | nil => simp
    | cons a r => simp at e
  | cons t r => cases vs with
    | nil => simp at e
    | cons a r => simp

/-! ### growth -/
structure Gr (H G H' G' : Hp) : Prop where
  eh : Ex H H'
  eg : Ex G G'
  gh : Ex G' H'
  sep : ∀ a o, G a = none → H a = some o → G' a = none
theorem Gr.refl {H G : Hp} (e : Ex G H) : Gr H G H G := ⟨Ex.refl _, Ex.refl _, e, fun _ _ h _ => h⟩
theorem Gr.trans {H G H1 G1 H2 G2 : Hp} (a : Gr H G H1 G1) (b : Gr H1 G1 H2 G2) : Gr H G H2 G2 :=
  ⟨a.eh.trans b.eh, a.eg.trans b.eg, b.gh, fun x o g h => b.sep x o (a.sep x o g h) (a.eh x o h)⟩
theorem ex_none {G H : Hp} {p : Addr} (e : Ex G H) (h : H p = none) : G p = none := fresh_back e h
theorem Ex.upd2 {G H : Hp} {p : Addr} {o : HO} (e : Ex G H) : Ex (upd G p o) (upd H p o) := fun a u h => by
  by_cases z : a = p
  · subst z
    rw [upd_same] at h ⊢
    exact h
  · rw [upd_ne z] at h ⊢
    exact e a u h
/-- a new object that is shared -/
theorem Gr.new {H G : Hp} {p : Addr} {o : HO} (e : Ex G H) (h : H p = none) : Gr H G (upd H p o) (upd G p o) :=
  ⟨Ex.new h, Ex.new (ex_none e h), Ex.upd2 e, fun a u g k => by rw [upd_ne (ne_of_none k h)]; exact g⟩
/-- a new object that is one's own -/
theorem Gr.own {H G : Hp} {p : Addr} {o : HO} (e : Ex G H) (h : H p = none) : Gr H G (upd H p o) G :=
  ⟨Ex.new h, Ex.refl _, e.trans (Ex.new h), fun a u g k => g⟩
/-- the new object is shared later -/
theorem Gr.frz {H G H' G' : Hp} {p : Addr} {o : HO} (g : Gr H G H' G') (h : H p = none) (h' : H' p = some o) (n : G' p = none) : Gr H G H' (upd G' p o) :=
  ⟨g.eh, g.eg.trans (Ex.new n), fun a u k => by
    by_cases z : a = p
    · subst z
      rw [upd_same] at k
      rw [← k]
      exact h'
    · rw [upd_ne z] at k
      exact g.gh a u k, fun a u k l => by
    rw [upd_ne (ne_of_none l h)]
    exact g.sep a u k l⟩

/-! ### how a value is held: E shared, S readable (its parts shared), N new and one's own (its parts shared) -/
def IsO (C : KM) (G : Hp) (t : T) (o : HO) : Prop :=
  match t with
  | .lst l => ∃ vs, o = .lst vs ∧ IsL C G l vs
  | .dic ks ws => ∃ kvs, o = .dK kvs ∧ IsL C G ks (kvs.map fun p => kV p.1) ∧ IsL C G ws (kvs.map fun p => p.2)
  | _ => False
theorem IsO.mono {C : KM} {G G' : Hp} {t : T} {o : HO} (e : Ex G G') (h : IsO C G t o) : IsO C G' t o := by
  cases t with
  | lst l =>
    obtain ⟨vs, rfl, k⟩ := h
    exact ⟨vs, rfl, IsL.mono e _ _ k⟩
  | dic ks ws =>
    obtain ⟨kvs, rfl, k, k'⟩ := h
    exact ⟨kvs, rfl, IsL.mono e _ _ k, IsL.mono e _ _ k'⟩
  | _ => exact h.elim
theorem IsO.is {C : KM} {G : Hp} {t : T} {o : HO} {a : Addr} (h : IsO C G t o) (k : G a = some o) : Is C G t (.ref a) := by
  cases t with
  | lst l =>
    obtain ⟨vs, rfl, q⟩ := h
    unfold Is
    exact ⟨a, vs, rfl, k, q⟩
  | dic ks ws =>
    obtain ⟨kvs, rfl, q, q'⟩ := h
    unfold Is
    exact ⟨a, kvs, rfl, k, q, q'⟩
  | _ => exact h.elim
def IsS (C : KM) (H G : Hp) (t : T) (v : V) : Prop := Is C G t v ∨ ∃ a o, v = .ref a ∧ H a = some o ∧ IsO C G t o
theorem IsS.mono {C : KM} {H G H' G' : Hp} {t : T} {v : V} (g : Gr H G H' G') (h : IsS C H G t v) : IsS C H' G' t v := by
  rcases h with h | ⟨a, o, e, h1, h2⟩
  · exact .inl (Is.mono g.eg _ _ h)
  · exact .inr ⟨a, o, e, g.eh _ _ h1, h2.mono g.eg⟩
theorem IsS.is {C : KM} {H G : Hp} {t : T} {v : V} (e : Ex G H) (h : IsS C H G t v) : Is C H t v := by
  rcases h with h | ⟨a, o, rfl, h1, h2⟩
  · exact Is.mono e _ _ h
  · exact (h2.mono e).is h1
inductive Md where | E | S | N
def Md.Is (C : KM) (m : Md) (t : T) (v : V) (H H' G' : Hp) : Prop :=
  match m with
  | .E => VS.Is C G' t v
  | .S => IsS C H' G' t v
  | .N => ∃ a o, v = .ref a ∧ H a = none ∧ H' a = some o ∧ G' a = none ∧ IsO C G' t o
theorem Md.Is.back {C : KM} {m : Md} {t : T} {v : V} {H G H1 G1 H' G' : Hp} (g : Gr H G H1 G1) (h : m.Is C t v H1 H' G') : m.Is C t v H H' G' := by
  cases m with
  | E => exact h
  | S => exact h
  | N =>
    obtain ⟨a, o, h1, h2, h3⟩ := h
    exact ⟨a, o, h1, fresh_back g.eh h2, h3⟩
theorem Md.Is.shal {C : KM} {m : Md} {t : T} {v : V} {H H' G' : Hp} (h : m.Is C t v H H' G') : IsS C H' G' t v := by
  cases m with
  | E => exact .inl h
  | S => exact h
  | N =>
    obtain ⟨a, o, h1, h2, h3, h4, h5⟩ := h
    exact .inr ⟨a, o, h1, h3, h5⟩

/-! ### things of one's own that hold others -/
mutual
/-- a tree as a key of a dict -/
def nk? : T → Option NestedKey
  | .non => some .none
  | .int i => some (.num i)
  | .str x => some (.text x)
  | .tup l => (nks? l).map .tup
  | _ => none
def nks? : List T → Option (List NestedKey)
  | [] => some []
  | t :: ts => match nk? t, nks? ts with
    | some k, some ks => some (k :: ks)
    | _, _ => none
end
/-- a tuple that is a key -/
def tk? (t : T) : Option NestedKey := match t with
  | .tup l => (match nks? l with | some ks => if (NestedKey.tup ks).depth ≤ 8 then some (.tup ks) else none | none => none)
  | _ => none
/-- a dict whose keys are tuples, also nested ones: its entries -/
def NdAt (w : World) (a : Addr) (xs : List (NestedKey × Addr × Value)) (h : Heap) : Prop :=
  ∃ o es ep, h.get? a = some o ∧ o.ExactDict ∧ o.data = .dict es ep ∧ es.toList = xs.map (fun x => (⟨x.1.hash w, .ref x.2.1, x.2.2⟩ : DictEntry)) ∧ (xs.map (·.1)).Nodup
def NdO (w : World) (a : Addr) (xs : List (NestedKey × Addr × Value)) : HO := .ext (NdAt w a xs)
/-- a thing of one's own: a shared tree in it; a list, a dict with keys that are tuples, a dict with keys that are ints or texts, all of shared trees; an instance, a list, a tuple of things of one's own -/
inductive D where
  | sh (t : T) | ls (l : List T) | dt (ks ws : List T) | dk (ks ws : List T) | ob (c : Str) (ns : List Str) (ds : List D) | dl (ds : List D) | tp (ds : List D)
def KeysAre (ks : List T) (xs : List (NestedKey × Addr × Value)) : Prop := Paired (fun t (x : NestedKey × Addr × Value) => tk? t = some x.1) ks xs
mutual
/-- v is d, what it holds of its own stands at F -/
def Dv (C : KM) (w : World) (H G : Hp) : D → V → List Addr → Prop
  | .sh t, v, F => Is C G t v ∧ F = []
  | .ls l, v, F => ∃ a vs, v = .ref a ∧ H a = some (.lst vs) ∧ IsL C G l vs ∧ F = [a]
  | .dt ks ws, v, F => ∃ a xs vs, v = .ref a ∧ (a == sysModules) = false ∧ H a = some (NdO w a xs) ∧ xs.length ≤ sizeLine ∧ KeysAre ks xs ∧ IsL C G ks (xs.map fun x => .ref x.2.1) ∧ L2.Vals vs (xs.map fun x => x.2.2) ∧ IsL C G ws vs ∧ F = [a]
  | .dk ks ws, v, F => ∃ a kvs, v = .ref a ∧ H a = some (.dK kvs) ∧ IsL C G ks (kvs.map fun p => kV p.1) ∧ IsL C G ws (kvs.map fun p => p.2) ∧ F = [a]
  | .ob c ns ds, v, F => ∃ a Cc dx vs F', v = .ref a ∧ C.mg c = some (.ref Cc) ∧ H a = some (.ins Cc dx (ns.zip vs)) ∧ H dx = some (.own a) ∧ ns.length = vs.length ∧ DvL C w H G ds vs F' ∧ F = a :: dx :: F'
  | .dl ds, v, F => ∃ a vs F', v = .ref a ∧ H a = some (.lst vs) ∧ DvL C w H G ds vs F' ∧ F = a :: F'
  | .tp ds, v, F => ∃ a vs, v = .ref a ∧ G a = some (.tup vs) ∧ DvL C w H G ds vs F
def DvL (C : KM) (w : World) (H G : Hp) : List D → List V → List Addr → Prop
  | [], vs, F => vs = [] ∧ F = []
  | d :: ds, vs, F => ∃ v r F1 F2, vs = v :: r ∧ Dv C w H G d v F1 ∧ DvL C w H G ds r F2 ∧ F = F1 ++ F2
end
mutual
theorem Dv.mono {C : KM} {w : World} {H G H' G' : Hp} (eg : Ex G G') : ∀ (d : D) (v : V) (F : List Addr), (∀ x ∈ F, ∀ o, H x = some o → H' x = some o) → Dv C w H G d v F → Dv C w H' G' d v F
  | .sh t, v, F, k, h => by
    unfold Dv at h ⊢
    exact ⟨Is.mono eg _ _ h.1, h.2⟩
  | .ls l, v, F, k, h => by
    unfold Dv at h ⊢
    obtain ⟨a, vs, h1, h2, h3, rfl⟩ := h
    exact ⟨a, vs, h1, k a (by simp) _ h2, IsL.mono eg _ _ h3, rfl⟩
  | .dt ks ws, v, F, k, h => by
    unfold Dv at h ⊢
    obtain ⟨a, xs, vs, h1, h2, h3, h4, h5, h6, h7, h8, rfl⟩ := h
    exact ⟨a, xs, vs, h1, h2, k a (by simp) _ h3, h4, h5, IsL.mono eg _ _ h6, h7, IsL.mono eg _ _ h8, rfl⟩
  | .dk ks ws, v, F, k, h => by
    unfold Dv at h ⊢
    obtain ⟨a, kvs, h1, h2, h3, h4, rfl⟩ := h
    exact ⟨a, kvs, h1, k a (by simp) _ h2, IsL.mono eg _ _ h3, IsL.mono eg _ _ h4, rfl⟩
  | .ob c ns ds, v, F, k, h => by
    unfold Dv at h ⊢
    obtain ⟨a, Cc, dx, vs, F', h1, h2, h3, h4, h5, h6, rfl⟩ := h
    exact ⟨a, Cc, dx, vs, F', h1, h2, k a (by simp) _ h3, k dx (by simp) _ h4, h5, DvL.mono eg ds vs F' (fun x m => k x (List.mem_cons_of_mem _ (List.mem_cons_of_mem _ m))) h6, rfl⟩
  | .dl ds, v, F, k, h => by
    unfold Dv at h ⊢
    obtain ⟨a, vs, F', h1, h2, h3, rfl⟩ := h
    exact ⟨a, vs, F', h1, k a (by simp) _ h2, DvL.mono eg ds vs F' (fun x m => k x (List.mem_cons_of_mem _ m)) h3, rfl⟩
  | .tp ds, v, F, k, h => by
    unfold Dv at h ⊢
    obtain ⟨a, vs, h1, h2, h3⟩ := h
    exact ⟨a, vs, h1, eg _ _ h2, DvL.mono eg ds vs F k h3⟩
theorem DvL.mono {C : KM} {w : World} {H G H' G' : Hp} (eg : Ex G G') : ∀ (ds : List D) (vs : List V) (F : List Addr), (∀ x ∈ F, ∀ o, H x = some o → H' x = some o) → DvL C w H G ds vs F → DvL C w H' G' ds vs F
  | [], _, _, _, h => by
    unfold DvL at h ⊢
    exact h
  | d :: ds, _, _, k, h => by
    unfold DvL at h ⊢
    obtain ⟨v, r, F1, F2, rfl, h1, h2, rfl⟩ := h
    exact ⟨v, r, F1, F2, rfl, Dv.mono eg d v F1 (fun x m => k x (List.mem_append_left _ m)) h1, DvL.mono eg ds r F2 (fun x m => k x (List.mem_append_right _ m)) h2, rfl⟩
end
mutual
theorem Dv.there {C : KM} {w : World} {H G : Hp} : ∀ (d : D) (v : V) (F : List Addr), Dv C w H G d v F → ∀ x ∈ F, ∃ o, H x = some o
  | .sh t, v, F, h => by
    unfold Dv at h
    obtain ⟨_, rfl⟩ := h
    intro x m
    cases m
  | .ls l, v, F, h => by
    unfold Dv at h
    obtain ⟨a, vs, h1, h2, h3, rfl⟩ := h
    intro x m
    rw [List.mem_singleton.mp m]
    exact ⟨_, h2⟩
  | .dt ks ws, v, F, h => by
    unfold Dv at h
    obtain ⟨a, xs, vs, h1, h2, h3, h4, h5, h6, h7, h8, rfl⟩ := h
    intro x m
    rw [List.mem_singleton.mp m]
    exact ⟨_, h3⟩
  | .dk ks ws, v, F, h => by
    unfold Dv at h
    obtain ⟨a, kvs, h1, h2, h3, h4, rfl⟩ := h
    intro x m
    rw [List.mem_singleton.mp m]
    exact ⟨_, h2⟩
  | .ob c ns ds, v, F, h => by
    unfold Dv at h
    obtain ⟨a, Cc, dx, vs, F', h1, h2, h3, h4, h5, h6, rfl⟩ := h
    intro x m
    rcases List.mem_cons.mp m with rfl | m
    · exact ⟨_, h3⟩
    · rcases List.mem_cons.mp m with rfl | m
      · exact ⟨_, h4⟩
      · exact DvL.there ds vs F' h6 x m
  | .dl ds, v, F, h => by
    unfold Dv at h
    obtain ⟨a, vs, F', h1, h2, h3, rfl⟩ := h
    intro x m
    rcases List.mem_cons.mp m with rfl | m
    · exact ⟨_, h2⟩
    · exact DvL.there ds vs F' h3 x m
  | .tp ds, v, F, h => by
    unfold Dv at h
    obtain ⟨a, vs, h1, h2, h3⟩ := h
    exact DvL.there ds vs F h3
theorem DvL.there {C : KM} {w : World} {H G : Hp} : ∀ (ds : List D) (vs : List V) (F : List Addr), DvL C w H G ds vs F → ∀ x ∈ F, ∃ o, H x = some o
  | [], _, _, h => by
    unfold DvL at h
    obtain ⟨_, rfl⟩ := h
    intro x m
    cases m
  | d :: ds, _, _, h => by
    unfold DvL at h
    obtain ⟨v, r, F1, F2, rfl, h1, h2, rfl⟩ := h
    intro x m
    rcases List.mem_append.mp m with m | m
    · exact Dv.there d v F1 h1 x m
    · exact DvL.there ds r F2 h2 x m
end
theorem zip_inj {α β : Type} : ∀ {ns : List α} {xs ys : List β}, ns.length = xs.length → ns.length = ys.length → ns.zip xs = ns.zip ys → xs = ys
  | [], [], [], _, _, _ => rfl
  | n :: ns, x :: xs, y :: ys, h, k, e => by
    rw [List.zip_cons_cons, List.zip_cons_cons] at e
    obtain ⟨e1, e2⟩ := List.cons.inj e
    rw [(Prod.mk.inj e1).2, zip_inj (Nat.succ.inj h) (Nat.succ.inj k) e2]
mutual
theorem Dv.det {C : KM} {w : World} {H G H' G' : Hp} (eg : Ex G G') : ∀ (d : D) (v : V) (F F' : List Addr), (∀ x ∈ F, ∀ o, H x = some o → H' x = some o) → Dv C w H G d v F → Dv C w H' G' d v F' → F = F'
  | .sh t, v, F, F', _, h, k => by
    unfold Dv at h k
    rw [h.2, k.2]
  | .ls l, v, F, F', _, h, k => by
    unfold Dv at h k
    obtain ⟨a, vs, rfl, h2, h3, rfl⟩ := h
    obtain ⟨b, ws, e, k2, k3, rfl⟩ := k
    cases e
    rfl
  | .dt ks ws, v, F, F', _, h, k => by
    unfold Dv at h k
    obtain ⟨a, xs, vs, rfl, h2, h3, h4, h5, h6, h7, h8, rfl⟩ := h
    obtain ⟨b, xs', vs', e, k2, k3, k4, k5, k6, k7, k8, rfl⟩ := k
    cases e
    rfl
  | .dk ks ws, v, F, F', _, h, k => by
    unfold Dv at h k
    obtain ⟨a, kvs, rfl, h2, h3, h4, rfl⟩ := h
    obtain ⟨b, kvs', e, k2, k3, k4, rfl⟩ := k
    cases e
    rfl
  | .ob c ns ds, v, F, F', s, h, k => by
    unfold Dv at h k
    obtain ⟨a, Cc, dx, vs, F1, rfl, h2, h3, h4, h5, h6, rfl⟩ := h
    obtain ⟨b, Cc', dx', vs', F1', e, k2, k3, k4, k5, k6, rfl⟩ := k
    cases e
    have q := (s a (by simp) _ h3).symm.trans k3
    injection q with q
    injection q with q1 q2 q3
    subst q2
    have ev := zip_inj h5 k5 q3
    subst ev
    rw [DvL.det eg ds vs F1 F1' (fun x m => s x (List.mem_cons_of_mem _ (List.mem_cons_of_mem _ m))) h6 k6]
  | .dl ds, v, F, F', s, h, k => by
    unfold Dv at h k
    obtain ⟨a, vs, F1, rfl, h2, h3, rfl⟩ := h
    obtain ⟨b, vs', F1', e, k2, k3, rfl⟩ := k
    cases e
    have q := (s a (by simp) _ h2).symm.trans k2
    injection q with q
    injection q with q
    subst q
    rw [DvL.det eg ds vs F1 F1' (fun x m => s x (List.mem_cons_of_mem _ m)) h3 k3]
  | .tp ds, v, F, F', s, h, k => by
    unfold Dv at h k
    obtain ⟨a, vs, rfl, h2, h3⟩ := h
    obtain ⟨b, vs', e, k2, k3⟩ := k
    cases e
    have q := (eg _ _ h2).symm.trans k2
    injection q with q
    injection q with q
    subst q
    exact DvL.det eg ds vs F F' s h3 k3
theorem DvL.det {C : KM} {w : World} {H G H' G' : Hp} (eg : Ex G G') : ∀ (ds : List D) (vs : List V) (F F' : List Addr), (∀ x ∈ F, ∀ o, H x = some o → H' x = some o) → DvL C w H G ds vs F → DvL C w H' G' ds vs F' → F = F'
  | [], _, _, _, _, h, k => by
    unfold DvL at h k
    rw [h.2, k.2]
  | d :: ds, _, _, _, s, h, k => by
    unfold DvL at h k
    obtain ⟨v, r, F1, F2, rfl, h1, h2, rfl⟩ := h
    obtain ⟨v', r', F1', F2', e, k1, k2, rfl⟩ := k
    cases e
    rw [Dv.det eg d v F1 F1' (fun x m => s x (List.mem_append_left _ m)) h1 k1, DvL.det eg ds r F2 F2' (fun x m => s x (List.mem_append_right _ m)) h2 k2]
end

/-! ### results, frames -/
inductive Res (α : Type) where
  | ok (a : α) | ex (x : Str) (p : List T) | bad
def Res.bind {α β : Type} (r : Res α) (f : α → Res β) : Res β :=
  match r with
  | .ok a => f a
  | .ex x p => .ex x p
  | .bad => .bad
def Res.of {α : Type} (o : Option α) : Res α := match o with | some a => .ok a | none => .bad
/-- a slot: nothing; a shared tree; an object of one's own; an exception that a suite holds -/
inductive Sl where
  | un | sh (t : T) | ow (t : T) | xn (x : Str) (p : List T) | dp (d : D)
abbrev Ev' := List Sl
/-- an exception of the class x, its payload p -/
def XAt (C : KM) (x : Str) (p : List T) (cls : Value) (d : Option Addr) (H : Hp) : Prop :=
  ∃ D, C.mg x = some (.ref D) ∧ cls = .ref D ∧ match p with
    | [] => d = none
    | [t] => ∃ dd v, d = some dd ∧ H dd = some (.xd [(("shown" : Str), v)]) ∧ Is C H t v
    | _ => False
theorem XAt.mono {C : KM} {x : Str} {p : List T} {cls : Value} {d : Option Addr} {H H' : Hp} (e : Ex H H') (h : XAt C x p cls d H) : XAt C x p cls d H' := by
  obtain ⟨D, h1, h2, h3⟩ := h
  refine ⟨D, h1, h2, ?_⟩
  match p, h3 with
  | [], h3 => exact h3
  | [t], ⟨dd, v, a, b, c⟩ => exact ⟨dd, v, a, e _ _ b, Is.mono e _ _ c⟩
/-- a thing of one's own as a tree: to be told back -/
def encF : D → T
  | .sh t => .tup [t]
  | .ls l => .lst l
  | _ => .non
def enc : D → T
  | .dt ks ws => .tup [.int 0, .lst ks, .lst ws]
  | .ob c ns ds => .tup [.int 1, .str c, .lst (ns.map .str), .lst (ds.map encF)]
  | _ => .non
def decF : T → Option D
  | .tup [t] => some (.sh t)
  | .lst l => some (.ls l)
  | _ => none
def decFs : List T → Option (List D)
  | [] => some []
  | t :: ts => match decF t, decFs ts with
    | some d, some ds => some (d :: ds)
    | _, _ => none
def strs? : List T → Option (List Str)
  | [] => some []
  | .str x :: ts => (strs? ts).map (x :: ·)
  | _ => none
def dec (t : T) : Option D :=
  match t with
  | .tup [.int 0, .lst ks, .lst ws] => some (.dt ks ws)
  | .tup [.int 1, .str c, .lst ns, .lst fs] => (match strs? ns, decFs fs with | some ns, some ds => some (.ob c ns ds) | _, _ => none)
  | _ => none
/-- how what is returned is held: shared; new; a new thing of one's own; beside it what was lent at a is given back -/
inductive Rm where
  | E | N | D | B (a : Addr)
def Rm.Is (C : KM) (w : World) (r : Rm) (t : T) (v : V) (H H' G' : Hp) : Prop :=
  match r with
  | .E => Md.E.Is C t v H H' G'
  | .N => Md.N.Is C t v H H' G'
  | .D => ∃ d F, dec t = some d ∧ Dv C w H' G' d v F ∧ F.Nodup ∧ ∀ x ∈ F, H x = none ∧ G' x = none
  | .B a => ∃ u d F, t = .tup [u, enc d] ∧ dec (enc d) = some d ∧ VS.Is C G' u v ∧ Dv C w H' G' d (.ref a) F ∧ F.Nodup ∧ ∀ x ∈ F, H x = none ∧ G' x = none
/-- the entry: the heap, its shared part; the exception that a suite holds: its address, class, own dict; how what is returned is held; what is lent: its slot, its address -/
structure BS where
  h : Hp
  g : Hp
  xa : Option (Addr × Value × Option Addr)
  rm : Rm
  w : World
  bi : List (Nat × Addr)
/-- what the slots hold of their own, beside plain objects: it stands apart -/
def Dps (C : KM) (B : BS) (σ : L2.St) (H : Hp) (ρ : Ev') (G : Hp) : Prop :=
  ∃ Fp : Nat → List Addr, (∀ (i : Nat) (d : D), ρ[i]? = some (.dp d) → ∃ v, σ[i]? = some (some v) ∧ Dv C B.w H G d v (Fp i) ∧ (Fp i).Nodup ∧ ∀ x ∈ Fp i, B.1 x = none ∧ G x = none) ∧
    (∀ (i j : Nat) (d e : D) (x : Addr), i ≠ j → ρ[i]? = some (.dp d) → ρ[j]? = some (.dp e) → x ∈ Fp i → x ∈ Fp j → False) ∧
    (∀ (i j : Nat) (d : D) (t : T) (a : Addr), ρ[i]? = some (.dp d) → ρ[j]? = some (.ow t) → σ[j]? = some (some (.ref a)) → a ∉ Fp i) ∧
    ∀ p ∈ B.bi, ∀ d : D, ρ[p.1]? = some (.dp d) → σ[p.1]? = some (some (.ref p.2))
/-- the state: the frame's slots, the heap H, its shared part G; B: both at the entry -/
structure SR (C : KM) (B : BS) (σ : L2.St) (H : Hp) (ρ : Ev') (G : Hp) : Prop where
  gr : Gr B.1 B.2 H G
  sh : ∀ (i : Nat) (t : T), ρ[i]? = some (.sh t) → ∃ v, σ[i]? = some (some v) ∧ Is C G t v
  ow : ∀ (i : Nat) (t : T), ρ[i]? = some (.ow t) → ∃ a o, σ[i]? = some (some (.ref a)) ∧ B.1 a = none ∧ H a = some o ∧ G a = none ∧ IsO C G t o
  ds : ∀ (i j : Nat) (t u : T) (a : Addr), i ≠ j → ρ[i]? = some (.ow t) → ρ[j]? = some (.ow u) → σ[i]? = some (some (.ref a)) → σ[j]? = some (some (.ref a)) → False
  len : ρ.length = σ.length
  xn : ∀ (i : Nat) (x : Str) (p : List T), ρ[i]? = some (.xn x p) → ∃ a cls d, B.3 = some (a, cls, d) ∧ σ[i]? = some (some (.ref a)) ∧ XAt C x p cls d G
  dp : Dps C B σ H ρ G
theorem Dps.ext {C : KM} {B : BS} {σ : L2.St} {H G H' G' : Hp} {ρ : Ev'} (s : Dps C B σ H ρ G) (g : Gr H G H' G') : Dps C B σ H' ρ G' := by
  obtain ⟨Fp, h1, h2, h3, h4⟩ := s
  refine ⟨Fp, fun i d e => ?_, h2, h3, h4⟩
  obtain ⟨v, q1, q2, q3, q4⟩ := h1 i d e
  refine ⟨v, q1, q2.mono g.eg _ _ _ (fun x _ o z => g.eh x o z), q3, fun x m => ⟨(q4 x m).1, ?_⟩⟩
  obtain ⟨o, ho⟩ := q2.there _ _ _ x m
  exact g.sep x o (q4 x m).2 ho
theorem Dps.no {C : KM} {B : BS} {σ : L2.St} {H G : Hp} {ρ : Ev'} (h : ∀ (i : Nat) (d : D), ρ[i]? ≠ some (.dp d)) : Dps C B σ H ρ G :=
  ⟨fun _ => [], fun i d e => (h i d e).elim, fun i j d e x _ q => (h i d q).elim, fun i j d t a q => (h i d q).elim, fun p _ d q => (h p.1 d q).elim⟩
theorem SR.ext {C : KM} {B : BS} {σ : L2.St} {H G H' G' : Hp} {ρ : Ev'} (s : SR C B σ H ρ G) (g : Gr H G H' G') : SR C B σ H' ρ G' where
  gr := s.gr.trans g
  sh := fun i t e => let ⟨v, h1, h2⟩ := s.sh i t e; ⟨v, h1, Is.mono g.eg _ _ h2⟩
  ow := fun i t e => let ⟨a, o, h1, h2, h3, h4, h5⟩ := s.ow i t e; ⟨a, o, h1, h2, g.eh _ _ h3, g.sep _ _ h4 h3, h5.mono g.eg⟩
  ds := s.ds
  len := s.len
  xn := fun i x p e => let ⟨a, cls, d, h1, h2, h3⟩ := s.xn i x p e; ⟨a, cls, d, h1, h2, h3.mono g.eg⟩
  dp := s.dp.ext g
theorem SR.exGH {C : KM} {B : BS} {σ : L2.St} {H G : Hp} {ρ : Ev'} (s : SR C B σ H ρ G) : Ex G H := s.gr.gh

/-! ### expressions -/
abbrev FE := Ev' → Res T
def Post (C : KM) (m : Md) (W : WX) (σ : L2.St) (H G : Hp) (r : Res T) (Q : VK) : Prop :=
  match r with
  | .ok t => ∀ v H' G', Gr H G H' G' → m.Is C t v H H' G' → Q v H'
  | .ex x p => ∀ cls d H' G', Gr H G H' G' → XAt C x p cls d G' → W cls d σ H'
  | .bad => False
theorem Post.mono {C : KM} {m : Md} {W : WX} {σ : L2.St} {H G H1 G1 : Hp} {r : Res T} {Q : VK} (g : Gr H G H1 G1) (h : Post C m W σ H G r Q) : Post C m W σ H1 G1 r Q := by
  cases r with
  | ok t => exact fun v H' G' g' i => h v H' G' (g.trans g') (i.back g)
  | ex x p => exact fun cls d H' G' g' i => h cls d H' G' (g.trans g') i
  | bad => exact h
def tM (C : KM) (B : BS) (m : Md) (W : WX) (f : FE) : TE := fun σ H Q => ∃ ρ G, SR C B σ H ρ G ∧ Post C m W σ H G (f ρ) Q
def km (X : Cx) : KM := ⟨X.K, X.mg⟩
def DE (X : Cx) (B : BS) (W : WX) (m : Md) (e : Expr) (f : FE) : Prop := PE X e (tM (km X) B m W f)
theorem PE.imp {X : Cx} {e : Expr} {t t' : TE} (h : PE X e t) (i : ∀ σ H Q, t' σ H Q → t σ H Q) : PE X e t' := ⟨fun pins s σ H Q I q => h.run pins s σ H Q I (i σ H Q q)⟩
theorem PT.imp {X : Cx} {e : Expr} {t t' : TT} (h : PT X e t) (i : ∀ σ H Q, t' σ H Q → t σ H Q) : PT X e t' := ⟨fun pins s σ H Q I q => h.run pins s σ H Q I (i σ H Q q)⟩
theorem PA.imp {X : Cx} {e : List Expr} {t t' : TA} (h : PA X e t) (i : ∀ σ H Q, t' σ H Q → t σ H Q) : PA X e t' := ⟨fun pos pins s σ H Q I q => h.run pos pins s σ H Q I (i σ H Q q)⟩
theorem PS.imp {X : Cx} {e : Stmt} {t t' : TS} (h : PS X e t) (i : ∀ D σ H, t' D σ H → t D σ H) : PS X e t' := ⟨fun pins s σ H D I q => h.run pins s σ H D I (i D σ H q)⟩
theorem PSs.imp {X : Cx} {e : List Stmt} {t t' : TS} (h : PSs X e t) (i : ∀ D σ H, t' D σ H → t D σ H) : PSs X e t' := ⟨fun pins s σ H D I q => h.run pins s σ H D I (i D σ H q)⟩

section
variable {C : KM} {B : BS} {m : Md} {W : WX} {σ : L2.St} {H G : Hp} {ρ : Ev'} {Q : VK} {Q1 : VK}
/-- an operand, then what follows -/
theorem bindS {fa : FE} {k : T → Res T} (h : SR C B σ H ρ G) (p : Post C m W σ H G ((fa ρ).bind k) Q)
    (c : ∀ t v H1 G1, Gr H G H1 G1 → SR C B σ H1 ρ G1 → IsS C H1 G1 t v → Post C m W σ H1 G1 (k t) Q → Q1 v H1) : tM C B .S W fa σ H Q1 := by
  refine ⟨ρ, G, h, ?_⟩
  cases e : fa ρ with
  | ok t =>
    rw [e] at p
    exact fun v H' G' g i => c t v H' G' g (h.ext g) i (p.mono g)
  | ex x p' =>
    rw [e] at p
    exact p
  | bad =>
    rw [e] at p
    exact p.elim
theorem bindE {fa : FE} {k : T → Res T} (h : SR C B σ H ρ G) (p : Post C m W σ H G ((fa ρ).bind k) Q)
    (c : ∀ t v H1 G1, Gr H G H1 G1 → SR C B σ H1 ρ G1 → Is C G1 t v → Post C m W σ H1 G1 (k t) Q → Q1 v H1) : tM C B .E W fa σ H Q1 := by
  refine ⟨ρ, G, h, ?_⟩
  cases e : fa ρ with
  | ok t =>
    rw [e] at p
    exact fun v H' G' g i => c t v H' G' g (h.ext g) i (p.mono g)
  | ex x p' =>
    rw [e] at p
    exact p
  | bad =>
    rw [e] at p
    exact p.elim
end
section
variable {X : Cx} {B : BS} {W : WX} {e : Expr} {f : FE}
theorem d_S (h : DE X B W .E e f) : DE X B W .S e f := PE.imp h fun σ H Q ⟨ρ, G, s, p⟩ => ⟨ρ, G, s, by
  cases r : f ρ with
  | ok t =>
    rw [r] at p
    exact fun v H' G' g i => p v H' G' g (.inl i)
  | ex x q =>
    rw [r] at p
    exact p
  | bad =>
    rw [r] at p
    exact p⟩
theorem d_NS (h : DE X B W .N e f) : DE X B W .S e f := PE.imp h fun σ H Q ⟨ρ, G, s, p⟩ => ⟨ρ, G, s, by
  cases r : f ρ with
  | ok t =>
    rw [r] at p
    exact fun v H' G' g i => p v H' G' g (Md.Is.shal i)
  | ex x q =>
    rw [r] at p
    exact p
  | bad =>
    rw [r] at p
    exact p⟩
theorem d_NE (h : DE X B W .N e f) : DE X B W .E e f := PE.imp h fun σ H Q ⟨ρ, G, s, p⟩ => ⟨ρ, G, s, by
  cases r : f ρ with
  | ok t =>
    rw [r] at p
    intro v H' G' g i
    obtain ⟨a, o, e1, h1, h2, h3, h4⟩ := i
    subst e1
    exact p _ H' (upd G' a o) (g.frz h1 h2 h3) ((h4.mono (Ex.new h3)).is upd_same)
  | ex x q =>
    rw [r] at p
    exact p
  | bad =>
    rw [r] at p
    exact p⟩

/-! ### constants, names -/
def eC (t : T) : FE := fun _ => .ok t
theorem d_int {i : Int} {j pos} : DE X B W .E (.Constant (.int i) j pos) (eC (.int i)) := PE.imp pe_int fun σ H Q ⟨ρ, G, s, p⟩ => p _ H G (Gr.refl s.exGH) (by show Is _ _ _ _; unfold Is; rfl)
theorem d_bl {b : Bool} {j pos} : DE X B W .E (.Constant (.bool b) j pos) (eC (.bl b)) := PE.imp pe_bl fun σ H Q ⟨ρ, G, s, p⟩ => p _ H G (Gr.refl s.exGH) (by show Is _ _ _ _; unfold Is; rfl)
theorem d_non {j pos} : DE X B W .E (.Constant .none j pos) (eC .non) := PE.imp pe_non fun σ H Q ⟨ρ, G, s, p⟩ => p _ H G (Gr.refl s.exGH) (by show Is _ _ _ _; unfold Is; rfl)
theorem d_str {x : Str} {j pos} : DE X B W .E (.Constant (.str x) j pos) (eC (.str x)) := PE.imp pe_str fun σ H Q ⟨ρ, G, s, p⟩ => p _ H G (Gr.refl s.exGH) (by show Is _ _ _ _; unfold Is; rfl)
/-- a shared name -/
def eV (i : Nat) : FE := fun ρ => match ρ[i]? with | some (.sh t) => .ok t | _ => .bad
/-- a name, shared or one's own, to be read -/
def eW (i : Nat) : FE := fun ρ => match ρ[i]? with | some (.sh t) => .ok t | some (.ow t) => .ok t | _ => .bad
theorem d_v (i : Nat) {x : Str} {pos : Pos} (hN : X.N[i]? = some x := by rfl) (hv : Vis X.env.scope x := by first | exact Or.inl rfl | exact Or.inr (Or.inl rfl) | exact Or.inr (Or.inr rfl)) (hd : (x == ("__debug__" : Str)) = false := by decide)
    (hcd : (x == ("__classdict__" : Str)) = false := by decide) : DE X B W .E (.Name x pos) (eV i) := PE.imp (pe_var hN hv hd hcd) fun σ H Q ⟨ρ, G, s, p⟩ => by
  unfold eV at p
  split at p
  · rename_i t e
    obtain ⟨v, h1, h2⟩ := s.sh i t e
    exact ⟨v, h1, p v H G (Gr.refl s.exGH) h2⟩
  · exact p.elim
theorem d_w (i : Nat) {x : Str} {pos : Pos} (hN : X.N[i]? = some x := by rfl) (hv : Vis X.env.scope x := by first | exact Or.inl rfl | exact Or.inr (Or.inl rfl) | exact Or.inr (Or.inr rfl)) (hd : (x == ("__debug__" : Str)) = false := by decide)
    (hcd : (x == ("__classdict__" : Str)) = false := by decide) : DE X B W .S (.Name x pos) (eW i) := PE.imp (pe_var hN hv hd hcd) fun σ H Q ⟨ρ, G, s, p⟩ => by
  unfold eW at p
  split at p
  · rename_i t e
    obtain ⟨v, h1, h2⟩ := s.sh i t e
    exact ⟨v, h1, p v H G (Gr.refl s.exGH) (.inl h2)⟩
  · rename_i t e
    obtain ⟨a, o, h1, h2, h3, h4, h5⟩ := s.ow i t e
    exact ⟨.ref a, h1, p _ H G (Gr.refl s.exGH) (.inr ⟨a, o, rfl, h3, h5⟩)⟩
  · exact p.elim
/-- a global of the text, by its name -/
theorem d_fn {x : Str} {v : V} {u : Value} {pos : Pos} (hg : Gl X x) (hm : X.mg x = some u) (r : RelV v u) (hd : (x == ("__debug__" : Str)) = false := by decide) : DE X B W .E (.Name x pos) (eC (.fn x)) :=
  PE.imp (pe_glob hg hm r hd) fun σ H Q ⟨ρ, G, s, p⟩ => p _ H G (Gr.refl s.exGH) (by show Is _ _ _ _; unfold Is; exact ⟨u, hm, r⟩)
/-- a global that holds a plain value -/
theorem d_gc {x : Str} {t : T} {v : V} {u : Value} {pos : Pos} (hg : Gl X x) (hm : X.mg x = some u) (r : RelV v u) (ht : ∀ G, Is (km X) G t v) (hd : (x == ("__debug__" : Str)) = false := by decide) : DE X B W .E (.Name x pos) (eC t) :=
  PE.imp (pe_glob hg hm r hd) fun σ H Q ⟨ρ, G, s, p⟩ => p _ H G (Gr.refl s.exGH) (ht G)
/-- a built-in type, by its name -/
theorem d_ty {x : Str} {n : String} {pos : Pos} (hg : Gl X x) (hm : X.mg x = none) (hv : bootBuiltins x = some (.type n)) (hn : x ≠ "__name__" := by decide) (hd : (x == ("__debug__" : Str)) = false := by decide) : DE X B W .E (.Name x pos) (eC (.ty n)) :=
  PE.imp (pe_bltn (v := .ty n) hg hm hv rfl hn hd) fun σ H Q ⟨ρ, G, s, p⟩ => p _ H G (Gr.refl s.exGH) (by show Is _ _ _ _; unfold Is; rfl)
end
end VS

namespace VS
open PySem PySem.Spec PyProof.Rows L2 Evl

/-! ### a value by its tree -/
section
variable {C : KM} {H G : Hp} {v : V}
theorem IsS.non (h : IsS C H G .non v) : v = .non := by
  rcases h with h | ⟨a, o, _, _, h⟩
  · unfold Is at h; exact h
  · exact h.elim
theorem IsS.bl {b : Bool} (h : IsS C H G (.bl b) v) : v = .bl b := by
  rcases h with h | ⟨a, o, _, _, h⟩
  · unfold Is at h; exact h
  · exact h.elim
theorem IsS.int {i : Int} (h : IsS C H G (.int i) v) : v = .int i := by
  rcases h with h | ⟨a, o, _, _, h⟩
  · unfold Is at h; exact h
  · exact h.elim
theorem IsS.str {x : Str} (h : IsS C H G (.str x) v) : v = .str x := by
  rcases h with h | ⟨a, o, _, _, h⟩
  · unfold Is at h; exact h
  · exact h.elim
theorem IsS.ty {x : String} (h : IsS C H G (.ty x) v) : v = .ty x := by
  rcases h with h | ⟨a, o, _, _, h⟩
  · unfold Is at h; exact h
  · exact h.elim
theorem IsS.fn {x : Str} (h : IsS C H G (.fn x) v) : ∃ u, C.mg x = some u ∧ RelV v u := by
  rcases h with h | ⟨a, o, _, _, h⟩
  · unfold Is at h; exact h
  · exact h.elim
theorem IsS.fro {x : List Int} (h : IsS C H G (.fro x) v) : ∃ a, v = .ref a ∧ SqL C.K G a (x.map V.int) := by
  rcases h with h | ⟨a, o, _, _, h⟩
  · unfold Is at h; exact h
  · exact h.elim
theorem IsS.tup {l : List T} (h : IsS C H G (.tup l) v) : ∃ a vs, v = .ref a ∧ SqT C.K G a vs ∧ IsL C G l vs := by
  rcases h with h | ⟨a, o, _, _, h⟩
  · unfold Is at h; exact h
  · exact h.elim
theorem IsS.lst {l : List T} (e : Ex G H) (h : IsS C H G (.lst l) v) : ∃ a vs, v = .ref a ∧ H a = some (.lst vs) ∧ IsL C G l vs := by
  rcases h with h | ⟨a, o, h1, h2, vs, rfl, h⟩
  · unfold Is at h
    obtain ⟨a, vs, h1, h2, h3⟩ := h
    exact ⟨a, vs, h1, e _ _ h2, h3⟩
  · exact ⟨a, vs, h1, h2, h⟩
theorem IsS.dic {ks ws : List T} (e : Ex G H) (h : IsS C H G (.dic ks ws) v) : ∃ a kvs, v = .ref a ∧ H a = some (.dK kvs) ∧ IsL C G ks (kvs.map fun p => kV p.1) ∧ IsL C G ws (kvs.map fun p => p.2) := by
  rcases h with h | ⟨a, o, h1, h2, vs, rfl, h, h'⟩
  · unfold Is at h
    obtain ⟨a, vs, h1, h2, h3⟩ := h
    exact ⟨a, vs, h1, e _ _ h2, h3⟩
  · exact ⟨a, vs, h1, h2, h, h'⟩
theorem Is.nonI : Is C G .non .non := by unfold Is; rfl
theorem Is.blI {b : Bool} : Is C G (.bl b) (.bl b) := by unfold Is; rfl
theorem Is.intI {b : Int} : Is C G (.int b) (.int b) := by unfold Is; rfl
theorem Is.strI {b : Str} : Is C G (.str b) (.str b) := by unfold Is; rfl
theorem Is.tupI {l : List T} {a : Addr} {vs : List V} (h : SqT C.K G a vs) (k : IsL C G l vs) : Is C G (.tup l) (.ref a) := by
  unfold Is; exact ⟨a, vs, rfl, h, k⟩
theorem Is.lstI {l : List T} {a : Addr} {vs : List V} (h : G a = some (.lst vs)) (k : IsL C G l vs) : Is C G (.lst l) (.ref a) := by
  unfold Is; exact ⟨a, vs, rfl, h, k⟩
/-- a new tuple, a new list, shared -/
theorem new_tup {l : List T} {p : Addr} {vs : List V} (e : Ex G H) (hp : H p = none) (k : IsL C G l vs) : Gr H G (upd H p (.tup vs)) (upd G p (.tup vs)) ∧ Is C (upd G p (.tup vs)) (.tup l) (.ref p) :=
  ⟨Gr.new e hp, Is.tupI (SqT.of upd_same) (IsL.mono (Ex.new (ex_none e hp)) _ _ k)⟩
theorem new_lst {l : List T} {p : Addr} {vs : List V} (e : Ex G H) (hp : H p = none) (k : IsL C G l vs) : Gr H G (upd H p (.lst vs)) (upd G p (.lst vs)) ∧ Is C (upd G p (.lst vs)) (.lst l) (.ref p) :=
  ⟨Gr.new e hp, Is.lstI upd_same (IsL.mono (Ex.new (ex_none e hp)) _ _ k)⟩
end

/-! ### equality of data -/
mutual
def eqT : T → T → Bool
  | .non, .non => true
  | .bl a, .bl b => a == b
  | .bl a, .int j => (if a then 1 else 0) == j
  | .int i, .bl b => i == (if b then 1 else 0)
  | .int i, .int j => i == j
  | .str x, .str y => x == y
  | .lst xs, .lst ys => eqTs xs ys
  | .tup xs, .tup ys => eqTs xs ys
  | _, _ => false
def eqTs : List T → List T → Bool
  | [], [] => true
  | x :: xs, y :: ys => eqT x y && eqTs xs ys
  | _, _ => false
end
mutual
def okD : Nat → T → Bool
  | _, .non => true
  | _, .bl _ => true
  | _, .int _ => true
  | _, .str x => x.cps.all (· < 0x110000)
  | n + 1, .lst xs => okDs n xs
  | n + 1, .tup xs => okDs n xs
  | _, _ => false
def okDs : Nat → List T → Bool
  | _, [] => true
  | n, x :: xs => okD n x && okDs n xs
end
mutual
def pd : T → PyData
  | .non => .none
  | .bl b => .bool b
  | .int i => .int i
  | .str x => .str x
  | .tup l => .tuple (pds l)
  | .lst l => .list (pds l)
  | _ => .none
def pds : List T → List PyData
  | [] => []
  | x :: xs => pd x :: pds xs
end
mutual
theorem okD_can : ∀ (n : Nat) (t : T), okD n t = true → (pd t).canLay0 = true ∧ (pd t).depth ≤ n + 1
  | n, .non, _ => ⟨rfl, by simp [pd, PyData.depth]⟩
  | n, .bl _, _ => ⟨rfl, by simp [pd, PyData.depth]⟩
  | n, .int _, _ => ⟨rfl, by simp [pd, PyData.depth]⟩
  | n, .str x, h => ⟨by simpa [okD, pd, PyData.canLay0, PyData.strOk] using h, by simp [pd, PyData.depth]⟩
  | n + 1, .lst l, h => by
    have h' : okDs n l = true := by simpa [okD] using h
    obtain ⟨a, b⟩ := okDs_can n l h'
    refine ⟨by simpa [pd, PyData.canLay0] using a, ?_⟩
    simp only [pd, PyData.depth]
    omega
  | n + 1, .tup l, h => by
    have h' : okDs n l = true := by simpa [okD] using h
    obtain ⟨a, b⟩ := okDs_can n l h'
    refine ⟨by simpa [pd, PyData.canLay0] using a, ?_⟩
    simp only [pd, PyData.depth]
    omega
  | 0, .lst _, h => by simp [okD] at h
  | 0, .tup _, h => by simp [okD] at h
  | 0, .dic _ _, h => by simp [okD] at h
  | n + 1, .dic _ _, h => by simp [okD] at h
  | 0, .fro _, h => by simp [okD] at h
  | n + 1, .fro _, h => by simp [okD] at h
  | 0, .fn _, h => by simp [okD] at h
  | n + 1, .fn _, h => by simp [okD] at h
  | 0, .ty _, h => by simp [okD] at h
  | n + 1, .ty _, h => by simp [okD] at h
theorem okDs_can : ∀ (n : Nat) (l : List T), okDs n l = true → PyData.canLayAll0 (pds l) = true ∧ PyData.depthAll (pds l) ≤ n + 1
  | n, [], _ => ⟨rfl, by simp [pds, PyData.depthAll]⟩
  | n, x :: xs, h => by
    have h' : okD n x = true ∧ okDs n xs = true := by simpa [okDs] using h
    obtain ⟨a, b⟩ := okD_can n x h'.1
    obtain ⟨c, d⟩ := okDs_can n xs h'.2
    refine ⟨by simp [pds, PyData.canLayAll0, a, c], ?_⟩
    simp only [pds, PyData.depthAll]
    omega
end
theorem shaped_okD {t : T} (h : okD 20 t = true) : SeqAt.shaped (pd t) = true := by
  obtain ⟨a, b⟩ := okD_can 20 t h
  unfold SeqAt.shaped
  rw [a, decide_eq_true (show (pd t).depth ≤ 64 by omega)]
  rfl
mutual
theorem Is.dp {C : KM} {H : Hp} : ∀ (n : Nat) (t : T) (v : V), okD n t = true → Is C H t v → Dp C.K H v (pd t)
  | _, .non, _, _, h => by
    unfold Is at h; subst h
    exact .non
  | _, .bl b, _, _, h => by
    unfold Is at h; subst h
    exact .bl b
  | _, .int i, _, _, h => by
    unfold Is at h; subst h
    exact .int i
  | _, .str x, _, _, h => by
    unfold Is at h; subst h
    exact .str x
  | n + 1, .lst l, _, k, h => by
    unfold Is at h
    obtain ⟨a, vs, rfl, h2, h3⟩ := h
    exact .lst (SqL.of h2) (IsL.dp n l vs (by simpa [okD] using k) h3)
  | n + 1, .tup l, _, k, h => by
    unfold Is at h
    obtain ⟨a, vs, rfl, h2, h3⟩ := h
    exact .tup h2 (IsL.dp n l vs (by simpa [okD] using k) h3)
  | 0, .lst _, _, h, _ => by simp [okD] at h
  | 0, .tup _, _, h, _ => by simp [okD] at h
  | 0, .dic _ _, _, h, _ => by simp [okD] at h
  | n + 1, .dic _ _, _, h, _ => by simp [okD] at h
  | 0, .fro _, _, h, _ => by simp [okD] at h
  | n + 1, .fro _, _, h, _ => by simp [okD] at h
  | 0, .fn _, _, h, _ => by simp [okD] at h
  | n + 1, .fn _, _, h, _ => by simp [okD] at h
  | 0, .ty _, _, h, _ => by simp [okD] at h
  | n + 1, .ty _, _, h, _ => by simp [okD] at h
theorem IsL.dp {C : KM} {H : Hp} : ∀ (n : Nat) (l : List T) (vs : List V), okDs n l = true → IsL C H l vs → DpAll C.K H vs (pds l)
  | _, [], _, _, h => by
    unfold IsL at h; subst h
    exact .nil
  | n, x :: xs, _, k, h => by
    have k' : okD n x = true ∧ okDs n xs = true := by simpa [okDs] using k
    unfold IsL at h
    obtain ⟨v, r, rfl, h2, h3⟩ := h
    exact .cons (Is.dp n x v k'.1 h2) (IsL.dp n xs r k'.2 h3)
end
mutual
theorem eqT_pd : ∀ (n m : Nat) (x y : T), okD n x = true → okD m y = true → PyData.eqv (pd x) (pd y) = eqT x y
  | n, m, .lst xs, .lst ys, h, k => by
    match n, m, h, k with
    | n + 1, m + 1, h, k =>
      have e := eqTs_pd n m xs ys (by simpa [okD] using h) (by simpa [okD] using k)
      simp only [pd, PyData.eqv, eqT, e]
  | n, m, .tup xs, .tup ys, h, k => by
    match n, m, h, k with
    | n + 1, m + 1, h, k =>
      have e := eqTs_pd n m xs ys (by simpa [okD] using h) (by simpa [okD] using k)
      simp only [pd, PyData.eqv, eqT, e]
  | n, m, .non, y, h, k => by cases y <;> first | (simp [pd, PyData.eqv, eqT]; done) | (cases m <;> simp [okD] at k)
  | n, m, .bl _, y, h, k => by cases y <;> first | (simp [pd, PyData.eqv, eqT]; done) | (cases m <;> simp [okD] at k)
  | n, m, .int _, y, h, k => by cases y <;> first | (simp [pd, PyData.eqv, eqT]; done) | (cases m <;> simp [okD] at k)
  | n, m, .str _, y, h, k => by cases y <;> first | (simp [pd, PyData.eqv, eqT]; done) | (cases m <;> simp [okD] at k)
  | n, m, .lst _, .non, h, k => by simp [pd, PyData.eqv, eqT]
  | n, m, .lst _, .bl _, h, k => by simp [pd, PyData.eqv, eqT]
  | n, m, .lst _, .int _, h, k => by simp [pd, PyData.eqv, eqT]
  | n, m, .lst _, .str _, h, k => by simp [pd, PyData.eqv, eqT]
  | n, m, .lst _, .tup _, h, k => by simp [pd, PyData.eqv, eqT]
  | n, m, .lst _, .dic _ _, h, k => by cases m <;> simp [okD] at k
  | n, m, .lst _, .fro _, h, k => by cases m <;> simp [okD] at k
  | n, m, .lst _, .fn _, h, k => by cases m <;> simp [okD] at k
  | n, m, .lst _, .ty _, h, k => by cases m <;> simp [okD] at k
  | n, m, .tup _, .non, h, k => by simp [pd, PyData.eqv, eqT]
  | n, m, .tup _, .bl _, h, k => by simp [pd, PyData.eqv, eqT]
  | n, m, .tup _, .int _, h, k => by simp [pd, PyData.eqv, eqT]
  | n, m, .tup _, .str _, h, k => by simp [pd, PyData.eqv, eqT]
  | n, m, .tup _, .lst _, h, k => by simp [pd, PyData.eqv, eqT]
  | n, m, .tup _, .dic _ _, h, k => by cases m <;> simp [okD] at k
  | n, m, .tup _, .fro _, h, k => by cases m <;> simp [okD] at k
  | n, m, .tup _, .fn _, h, k => by cases m <;> simp [okD] at k
  | n, m, .tup _, .ty _, h, k => by cases m <;> simp [okD] at k
  | n, m, .dic _ _, _, h, k => by cases n <;> simp [okD] at h
  | n, m, .fro _, _, h, k => by cases n <;> simp [okD] at h
  | n, m, .fn _, _, h, k => by cases n <;> simp [okD] at h
  | n, m, .ty _, _, h, k => by cases n <;> simp [okD] at h
theorem eqTs_pd : ∀ (n m : Nat) (xs ys : List T), okDs n xs = true → okDs m ys = true → PyData.eqvAll (pds xs) (pds ys) = eqTs xs ys
  | _, _, [], [], _, _ => rfl
  | _, _, [], _ :: _, _, _ => rfl
  | _, _, _ :: _, [], _, _ => rfl
  | n, m, x :: xs, y :: ys, h, k => by
    have h' : okD n x = true ∧ okDs n xs = true := by simpa [okDs] using h
    have k' : okD m y = true ∧ okDs m ys = true := by simpa [okDs] using k
    simp only [pds, PyData.eqvAll, eqTs, eqT_pd n m x y h'.1 k'.1, eqTs_pd n m xs ys h'.2 k'.2]
end
end VS

namespace VS
open PySem PySem.Spec PyProof.Rows L2 Evl

/-! ### two-place operations -/
def rG (C : KM) (m : Md) (g : T → T → Option T) : R2 := fun v u H Q => ∃ x y G t, Ex G H ∧ IsS C H G x v ∧ IsS C H G y u ∧ g x y = some t ∧ ∀ z H' G', Gr H G H' G' → m.Is C t z H H' G' → Q z H'
def eB (g : T → T → Option T) (fa fb : FE) : FE := fun ρ => (fa ρ).bind fun x => (fb ρ).bind fun y => Res.of (g x y)
section
variable {C : KM} {B : BS} {m : Md} {W : WX} {σ : L2.St} {H G : Hp} {ρ : Ev'} {Q : VK}
theorem Post.of {r : Option T} (p : Post C m W σ H G (Res.of r) Q) : ∃ t, r = some t ∧ ∀ v H' G', Gr H G H' G' → m.Is C t v H H' G' → Q v H' := by
  cases r with
  | none => exact p.elim
  | some t => exact ⟨t, rfl, p⟩
theorem rG_of {g : T → T → Option T} {fa fb : FE} (h : SR C B σ H ρ G) (p : Post C m W σ H G (eB g fa fb ρ) Q) : tOp (rG C m g) (tM C B .S W fa) (tM C B .S W fb) σ H Q := by
  refine bindS h p fun x v H1 G1 g1 s1 i1 p1 => ?_
  refine bindS s1 p1 fun y u H2 G2 g2 s2 i2 p2 => ?_
  obtain ⟨t, e, q⟩ := p2.of
  exact ⟨x, y, G2, t, s2.exGH, i1.mono g2, i2, e, q⟩
end
/-- a test's reading, of a tree that is a truth -/
def PostT (C : KM) (W : WX) (σ : L2.St) (H G : Hp) (r : Res T) (Q : Bool → Hp → Prop) : Prop :=
  match r with
  | .ok (.bl b) => ∀ H' G', Gr H G H' G' → Q b H'
  | .ok _ => False
  | .ex x p => ∀ cls d H' G', Gr H G H' G' → XAt C x p cls d G' → W cls d σ H'
  | .bad => False
def tMT (C : KM) (B : BS) (W : WX) (f : FE) : TT := fun σ H Q => ∃ ρ G, SR C B σ H ρ G ∧ PostT C W σ H G (f ρ) Q
def DT (X : Cx) (B : BS) (W : WX) (e : Expr) (f : FE) : Prop := PT X e (tMT (km X) B W f)
def DW (X : Cx) (B : BS) (W : WX) (e : Expr) (f : FE) : Prop := PW X e (tMT (km X) B W f)
theorem PostT.post {C : KM} {m : Md} {W : WX} {σ : L2.St} {H G : Hp} {r : Res T} {Q : Bool → Hp → Prop} (h : PostT C W σ H G r Q) (hm : m = .E ∨ m = .S) : Post C m W σ H G r (fun x H1 => ∃ c, x = .bl c ∧ Q c H1) := by
  cases r with
  | ok t =>
    cases t with
    | bl b =>
      intro v H' G' g i
      have i' := Md.Is.shal i
      exact ⟨b, i'.bl, h H' G' g⟩
    | _ => exact h.elim
  | ex x p => exact h
  | bad => exact h
section
variable {X : Cx} {B : BS} {W : WX} {m : Md} {a b e : Expr} {fa fb f : FE} {pos : Pos}
theorem d_op {op : Operator} {g : T → T → Option T} (ho : OpR X (binaryOp op) (rG (km X) m g)) (ha : DE X B W .S a fa) (hb : DE X B W .S b fb) : DE X B W m (.BinOp a op b pos) (eB g fa fb) :=
  PE.imp (pe_op ho ha hb) fun σ H Q ⟨ρ, G, s, p⟩ => rG_of s p
theorem d_cmp {op : CmpOp} {g : T → T → Option T} (ho : OpR X (compareOp op) (rG (km X) .E g)) (ha : DE X B W .S a fa) (hb : DE X B W .S b fb) (hm : behindInMarks op b = false) : DE X B W .E (.Compare a [op] [b] pos) (eB g fa fb) :=
  PE.imp (pe_cmpR ho ha hb hm) fun σ H Q ⟨ρ, G, s, p⟩ => rG_of s p
theorem t_cmp {op : CmpOp} {g : T → T → Option T} (ho : OpR X (compareOp op) (rG (km X) .E g)) (ha : DE X B W .S a fa) (hb : DE X B W .S b fb) (hm : behindInMarks op b = false) : DT X B W (.Compare a [op] [b] pos) (eB g fa fb) :=
  PT.imp (pt_cmpR ho ha hb hm) fun σ H Q ⟨ρ, G, s, p⟩ => rG_of (m := .E) s (p.post (.inl rfl))
theorem t_val (h : DE X B W .E e f) (he : ∀ whole, isTrue e X.env whole = (do let v ← whole; standAt e.pos; holding [v] (truthy v)) := by intro _; rfl) : DT X B W e f :=
  PT.imp (pt_val h he) fun σ H Q ⟨ρ, G, s, p⟩ => ⟨ρ, G, s, p.post (.inl rfl)⟩
end

/-! ### chains, and, or, not, if -/
def eCh (g g' : T → T → Option T) (fa fb fc : FE) : FE := fun ρ => (fa ρ).bind fun x => (fb ρ).bind fun y => match g x y with
  | some (.bl true) => (fc ρ).bind fun z => Res.of (g' y z)
  | some (.bl false) => .ok (.bl false)
  | _ => .bad
def eAnd (fa fb : FE) : FE := fun ρ => (fa ρ).bind fun x => match x with | .bl true => fb ρ | .bl false => .ok (.bl false) | _ => .bad
def eOr (fa fb : FE) : FE := fun ρ => (fa ρ).bind fun x => match x with | .bl true => .ok (.bl true) | .bl false => fb ρ | _ => .bad
def eNot (fa : FE) : FE := fun ρ => (fa ρ).bind fun x => match x with | .bl c => .ok (.bl !c) | _ => .bad
def eIf (fc fa fb : FE) : FE := fun ρ => (fc ρ).bind fun x => match x with | .bl true => fa ρ | .bl false => fb ρ | _ => .bad
section
variable {C : KM} {B : BS} {m : Md} {W : WX} {σ : L2.St} {H G : Hp} {ρ : Ev'} {Q : VK}
/-- a test, then what follows -/
theorem bindT {fa : FE} {k : Bool → Res T} {Q1 : Bool → Hp → Prop} (h : SR C B σ H ρ G) (p : Post C m W σ H G ((fa ρ).bind fun x => match x with | .bl c => k c | _ => .bad) Q)
    (c : ∀ b H1 G1, Gr H G H1 G1 → SR C B σ H1 ρ G1 → Post C m W σ H1 G1 (k b) Q → Q1 b H1) : tMT C B W fa σ H Q1 := by
  refine ⟨ρ, G, h, ?_⟩
  cases e : fa ρ with
  | ok t =>
    rw [e] at p
    cases t with
    | bl b => exact fun H' G' g => c b H' G' g (h.ext g) (p.mono g)
    | _ => exact p.elim
  | ex x p' =>
    rw [e] at p
    exact p
  | bad =>
    rw [e] at p
    exact p.elim
theorem PostT.mono {H1 G1 : Hp} {r : Res T} {Q : Bool → Hp → Prop} (g : Gr H G H1 G1) (h : PostT C W σ H G r Q) : PostT C W σ H1 G1 r Q := by
  cases r with
  | ok t =>
    cases t with
    | bl b => exact fun H' G' g' => h H' G' (g.trans g')
    | _ => exact h
  | ex x p => exact fun cls d H' G' g' i => h cls d H' G' (g.trans g') i
  | bad => exact h
theorem bindTT {fa : FE} {k : Bool → Res T} {Q : Bool → Hp → Prop} {Q1 : Bool → Hp → Prop} (h : SR C B σ H ρ G) (p : PostT C W σ H G ((fa ρ).bind fun x => match x with | .bl c => k c | _ => .bad) Q)
    (c : ∀ b H1 G1, Gr H G H1 G1 → SR C B σ H1 ρ G1 → PostT C W σ H1 G1 (k b) Q → Q1 b H1) : tMT C B W fa σ H Q1 := by
  refine ⟨ρ, G, h, ?_⟩
  cases e : fa ρ with
  | ok t =>
    rw [e] at p
    cases t with
    | bl b => exact fun H' G' g => c b H' G' g (h.ext g) (p.mono g)
    | _ => exact p.elim
  | ex x p' =>
    rw [e] at p
    exact p
  | bad =>
    rw [e] at p
    exact p.elim
theorem sw_and {r : Res T} {s : Res T} : (r.bind fun x => match x with | .bl true => s | .bl false => .ok (.bl false) | _ => .bad) = r.bind fun x => match x with | .bl c => (if c = true then s else .ok (.bl false)) | _ => .bad := by
  cases r with
  | ok t =>
    cases t with
    | bl b => cases b <;> rfl
    | _ => rfl
  | _ => rfl
theorem sw_or {r : Res T} {s : Res T} : (r.bind fun x => match x with | .bl true => .ok (.bl true) | .bl false => s | _ => .bad) = r.bind fun x => match x with | .bl c => (if c = true then .ok (.bl true) else s) | _ => .bad := by
  cases r with
  | ok t =>
    cases t with
    | bl b => cases b <;> rfl
    | _ => rfl
  | _ => rfl
theorem sw_if {r : Res T} {s u : Res T} : (r.bind fun x => match x with | .bl true => s | .bl false => u | _ => .bad) = r.bind fun x => match x with | .bl c => (if c = true then s else u) | _ => .bad := by
  cases r with
  | ok t =>
    cases t with
    | bl b => cases b <;> rfl
    | _ => rfl
  | _ => rfl
theorem postOkB {b : Bool} {Q : Bool → Hp → Prop} (e : Ex G H) (p : PostT C W σ H G (.ok (.bl b)) Q) : Q b H := p H G (Gr.refl e)
theorem postOk {b : Bool} {Q : VK} (e : Ex G H) (p : Post C .E W σ H G (.ok (.bl b)) Q) : Q (.bl b) H := p _ H G (Gr.refl e) (show VS.Is C G (.bl b) (.bl b) from Is.blI)
end
section
variable {X : Cx} {B : BS} {W : WX} {m : Md} {a b c e : Expr} {fa fb fc f : FE} {pos : Pos} {rest : List Expr}
theorem tB_of {C : KM} {σ : L2.St} {H : Hp} {Q : Bool → Hp → Prop} {f : FE} (h : tMT C B W f σ H Q) : tM C B .E W f σ H (fun x H1 => ∃ c, x = .bl c ∧ Q c H1) := by
  obtain ⟨ρ, G, s, p⟩ := h
  exact ⟨ρ, G, s, p.post (.inl rfl)⟩
theorem w_and1 (ha : DT X B W a fa) : DW X B W (.BoolOp .And [a] pos) fa := pw_and1 ha
theorem w_or1 (ha : DT X B W a fa) : DW X B W (.BoolOp .Or [a] pos) fa := pw_or1 ha
theorem PW.imp {X : Cx} {e : Expr} {t t' : TT} (h : PW X e t) (i : ∀ σ H Q, t' σ H Q → t σ H Q) : PW X e t' := ⟨fun wh pins s σ H Q I q => h.run wh pins s σ H Q I (i σ H Q q)⟩
theorem w_and (ha : DT X B W a fa) (hb : DW X B W (.BoolOp .And (b :: rest) pos) fb) : DW X B W (.BoolOp .And (a :: b :: rest) pos) (eAnd fa fb) :=
  PW.imp (pw_and ha hb) fun σ H Q ⟨ρ, G, s, p⟩ => bindTT s (k := fun c => if c = true then fb ρ else .ok (.bl false)) (by unfold eAnd at p; rw [sw_and] at p; exact p) fun b H1 G1 g s1 p1 => by
    cases b with
    | true => exact iteT ⟨ρ, G1, s1, p1⟩
    | false => exact iteF (postOkB s1.exGH p1)
theorem w_or (ha : DT X B W a fa) (hb : DW X B W (.BoolOp .Or (b :: rest) pos) fb) : DW X B W (.BoolOp .Or (a :: b :: rest) pos) (eOr fa fb) :=
  PW.imp (pw_or ha hb) fun σ H Q ⟨ρ, G, s, p⟩ => bindTT s (k := fun c => if c = true then .ok (.bl true) else fb ρ) (by unfold eOr at p; rw [sw_or] at p; exact p) fun b H1 G1 g s1 p1 => by
    cases b with
    | true => exact iteT (postOkB s1.exGH p1)
    | false => exact iteF ⟨ρ, G1, s1, p1⟩
theorem t_w (h : DW X B W e f) : DT X B W e f := L2.PW.pt h
theorem t_not (ha : DT X B W a fa) : DT X B W (.UnaryOp .Not a pos) (eNot fa) :=
  PT.imp (pt_not ha) fun σ H Q ⟨ρ, G, s, p⟩ => bindTT s (k := fun c => .ok (.bl !c)) p fun b H1 G1 g s1 p1 => postOkB s1.exGH p1
theorem d_one {op} (h : DE X B W m a f) : DE X B W m (.BoolOp op [a] pos) f := pe_one h
theorem d_and (ha : DE X B W .E a fa) (hb : DE X B W .E (.BoolOp .And (b :: rest) pos) fb) : DE X B W .E (.BoolOp .And (a :: b :: rest) pos) (eAnd fa fb) :=
  PE.imp (pe_and ha hb) fun σ H Q ⟨ρ, G, s, p⟩ => tB_of (Q := fun c H1 => if c = true then tM (km X) B .E W fb σ H1 Q else Q (.bl false) H1) (bindT s (k := fun c => if c = true then fb ρ else .ok (.bl false)) (by unfold eAnd at p; rw [sw_and] at p; exact p) fun b H1 G1 g s1 p1 => by
    cases b with
    | true => exact iteT ⟨ρ, G1, s1, p1⟩
    | false => exact iteF (postOk s1.exGH p1))
theorem d_or (ha : DE X B W .E a fa) (hb : DE X B W .E (.BoolOp .Or (b :: rest) pos) fb) : DE X B W .E (.BoolOp .Or (a :: b :: rest) pos) (eOr fa fb) :=
  PE.imp (pe_or ha hb) fun σ H Q ⟨ρ, G, s, p⟩ => tB_of (Q := fun c H1 => if c = true then Q (.bl true) H1 else tM (km X) B .E W fb σ H1 Q) (bindT s (k := fun c => if c = true then .ok (.bl true) else fb ρ) (by unfold eOr at p; rw [sw_or] at p; exact p) fun b H1 G1 g s1 p1 => by
    cases b with
    | true => exact iteT (postOk s1.exGH p1)
    | false => exact iteF ⟨ρ, G1, s1, p1⟩)
theorem d_not (ha : DE X B W .E a fa) : DE X B W .E (.UnaryOp .Not a pos) (eNot fa) :=
  PE.imp (pe_not ha) fun σ H Q ⟨ρ, G, s, p⟩ => tB_of (Q := fun c H1 => Q (.bl !c) H1) (bindT s (k := fun c => .ok (.bl !c)) p fun b H1 G1 g s1 p1 => postOk s1.exGH p1)
theorem d_if (hc : DT X B W c fc) (ha : DE X B W m a fa) (hb : DE X B W m b fb) : DE X B W m (.IfExp c a b pos) (eIf fc fa fb) :=
  PE.imp (pe_ifExp hc ha hb) fun σ H Q ⟨ρ, G, s, p⟩ => bindT s (k := fun c => if c = true then fa ρ else fb ρ) (by unfold eIf at p; rw [sw_if] at p; exact p) fun b H1 G1 g s1 p1 => by
    cases b with
    | true => exact iteT ⟨ρ, G1, s1, p1⟩
    | false => exact iteF ⟨ρ, G1, s1, p1⟩
theorem chain_of {C : KM} {σ : L2.St} {H G : Hp} {ρ : Ev'} {Q : VK} {g g' : T → T → Option T} (h : SR C B σ H ρ G) (p : Post C .E W σ H G (eCh g g' fa fb fc ρ) Q) : tChain (rG C .E g) (rG C .E g') (tM C B .S W fa) (tM C B .S W fb) (tM C B .S W fc) σ H Q := by
  refine bindS h p fun x v H1 G1 g1 s1 i1 p1 => ?_
  refine bindS s1 p1 fun y u H2 G2 g2 s2 i2 p2 => ?_
  cases e : g x y with
  | none =>
    rw [e] at p2
    exact p2.elim
  | some t =>
    rw [e] at p2
    cases t with
    | bl b =>
      refine ⟨x, y, G2, .bl b, s2.exGH, i1.mono g2, i2, e, fun z H' G' gg iz => ?_⟩
      have iz' : z = .bl b := Eq.mp (by show VS.Is C G' (.bl b) z = _; unfold Is; rfl) iz
      subst iz'
      refine ⟨b, rfl, ?_⟩
      cases b with
      | true =>
        refine iteT (bindS (s2.ext gg) (p2.mono gg) fun z' w H3 G3 g3 s3 i3 p3 => ?_)
        obtain ⟨t, e', q⟩ := p3.of
        exact ⟨y, z', G3, t, s3.exGH, i2.mono (gg.trans g3), i3, e', q⟩
      | false => exact iteF (postOk gg.gh (p2.mono gg))
    | _ => exact p2.elim
theorem d_ch {op op' : CmpOp} {g g' : T → T → Option T} (ho : OpR X (compareOp op) (rG (km X) .E g)) (ho' : OpR X (compareOp op') (rG (km X) .E g')) (ha : DE X B W .S a fa) (hb : DE X B W .S b fb) (hc : DE X B W .S c fc)
    (hm : lastMarks [op, op'] [b, c] = false := by with_unfolding_all rfl) : DE X B W .E (.Compare a [op, op'] [b, c] pos) (eCh g g' fa fb fc) :=
  PE.imp (pe_chain ho ho' ha hb hc hm) fun σ H Q ⟨ρ, G, s, p⟩ => chain_of s p
theorem t_ch {op op' : CmpOp} {g g' : T → T → Option T} (ho : OpR X (compareOp op) (rG (km X) .E g)) (ho' : OpR X (compareOp op') (rG (km X) .E g')) (ha : DE X B W .S a fa) (hb : DE X B W .S b fb) (hc : DE X B W .S c fc)
    (hm : lastMarks [op, op'] [b, c] = false := by with_unfolding_all rfl) : DT X B W (.Compare a [op, op'] [b, c] pos) (eCh g g' fa fb fc) :=
  PT.imp (pt_chain ho ho' ha hb hc hm) fun σ H Q ⟨ρ, G, s, p⟩ => chain_of s (p.post (.inl rfl))
end
end VS

namespace VS
open PySem PySem.Spec PyProof.Rows L2 Evl

/-! ### the operations on trees -/
def gAdd : T → T → Option T
  | .int i, .int j => some (.int (i + j))
  | .str a, .str b => if a.length + b.length ≤ 100000 then some (.str (a ++ b)) else none
  | .tup a, .tup b => if a.length + b.length ≤ 100000 then some (.tup (a ++ b)) else none
  | .lst a, .lst b => if a.length + b.length ≤ 100000 then some (.lst (a ++ b)) else none
  | _, _ => none
def gSubI : T → T → Option T
  | .int i, .int j => some (.int (i - j))
  | _, _ => none
def gMul : T → T → Option T
  | .int i, .int j => if (-(2 ^ 64) < i ∧ i < 2 ^ 64) ∨ (-(2 ^ 64) < j ∧ j < 2 ^ 64) then some (.int (i * j)) else none
  | .lst l, .int k => if k ≤ 100000 ∧ l.length * k.toNat ≤ 100000 ∧ -100000 ≤ k then some (.lst (List.replicate k.toNat l).flatten) else none
  | _, _ => none
def gDiv : T → T → Option T
  | .int i, .int j => if 0 < j ∧ j < 1073741824 then some (.int (i / j)) else none
  | _, _ => none
def gMod : T → T → Option T
  | .int i, .int j => if 0 < j then some (.int (i % j)) else none
  | _, _ => none
def gPow : T → T → Option T
  | .int i, .int j => if 0 ≤ j ∧ j ≤ 1000000 ∧ i.natAbs < 2 ^ 64 then some (.int (i ^ j.toNat)) else none
  | _, _ => none
def gI (p : Int → Int → Bool) : T → T → Option T
  | .int i, .int j => some (.bl (p i j))
  | _, _ => none
abbrev gLt := gI fun i j => decide (i < j)
abbrev gLe := gI fun i j => decide (i ≤ j)
abbrev gGt := gI fun i j => decide (j < i)
abbrev gGe := gI fun i j => decide (j ≤ i)
def gEq (x y : T) : Option T := if okD 20 x && okD 20 y then some (.bl (eqT x y)) else none
def gNe (x y : T) : Option T := if okD 20 x && okD 20 y then some (.bl (!eqT x y)) else none
def T.isNon : T → Bool
  | .non => true
  | _ => false
def gIsN (x y : T) : Option T := if y.isNon then some (.bl x.isNon) else none
def gNotN (x y : T) : Option T := if y.isNon then some (.bl (!x.isNon)) else none
def T.flat : T → Bool
  | .non => true
  | .bl _ => true
  | .int _ => true
  | .str _ => true
  | _ => false
/-- in a tuple or a list of flat things -/
def gIn (neg : Bool) (x y : T) : Option T :=
  match y with
  | .tup l => if x.flat && l.all T.flat then some (.bl (if neg then !(l.any fun z => eqT z x) else l.any fun z => eqT z x)) else none
  | .lst l => if x.flat && l.all T.flat then some (.bl (if neg then !(l.any fun z => eqT z x) else l.any fun z => eqT z x)) else none
  | _ => none
/-- an item; a value of a dict -/
def gIx (x y : T) : Option T :=
  match x, y with
  | .lst l, .int i => atI l i
  | .tup l, .int i => atI l i
  | .fro l, .int i => (atI l i).map T.int
  | _, _ => none
section
variable {X : Cx} {C : KM} {H G : Hp}
theorem qE {t : T} {v : V} {Q : VK} (q : ∀ z H' G', Gr H G H' G' → Md.Is C .E t z H H' G' → Q z H') (e : Ex G H) (i : Is C G t v) : Q v H := q v H G (Gr.refl e) i
theorem atI_len {α β : Type} {xs : List α} {ys : List β} (h : xs.length = ys.length) {i : Int} {t : α} (e : atI xs i = some t) : ∃ j : Nat, xs[j]? = some t ∧ ∀ v, ys[j]? = some v → atI ys i = some v := by
  unfold atI at e ⊢
  cases q : ixN xs.length i with
  | none => rw [q] at e; cases e
  | some j =>
    rw [q] at e
    refine ⟨j, e, fun v hv => ?_⟩
    rw [← h, q]
    exact hv
theorem IsL.at {l : List T} {vs : List V} (h : IsL C G l vs) {i : Int} {t : T} (e : atI l i = some t) : ∃ v, atI vs i = some v ∧ Is C G t v := by
  obtain ⟨j, e1, e2⟩ := atI_len h.length e
  obtain ⟨v, e3, e4⟩ := h.get e1
  exact ⟨v, e2 v e3, e4⟩
theorem o_add : OpR X (binaryOp .Add) (rG (km X) .E gAdd) := by
  intro pins s σ H v u a b Q I ra rb h
  obtain ⟨x, y, G, t, ex, ix, iy, e, q⟩ := h
  cases x with
  | int i =>
    cases y with
    | int j =>
      obtain rfl := Option.some.inj e
      obtain rfl := ix.int
      obtain rfl := iy.int
      exact op_add pins s σ H _ _ a b Q I ra rb ⟨i, j, rfl, rfl, qE q ex Is.intI⟩
    | _ => cases e
  | str i =>
    cases y with
    | str j =>
      simp only [gAdd] at e
      split at e
      · rename_i hl
        obtain rfl := Option.some.inj e
        obtain rfl := ix.str
        obtain rfl := iy.str
        exact op_add_str pins s σ H _ _ a b Q I ra rb ⟨i, j, rfl, rfl, sz_of hl, qE q ex Is.strI⟩
      · cases e
    | _ => cases e
  | tup l =>
    cases y with
    | tup r =>
      simp only [gAdd] at e
      split at e
      · rename_i hl
        obtain rfl := Option.some.inj e
        obtain ⟨p, vs, rfl, h1, h2⟩ := ix.tup
        obtain ⟨p', ws, rfl, k1, k2⟩ := iy.tup
        refine op_catA pins s σ H _ _ a b Q I ra rb ⟨p, p', vs, ws, rfl, rfl, ex_t ex h1, ex_t ex k1, sz_of (by rw [← h2.length, ← k2.length]; exact hl), fun z => ?_, fun z z' => ?_, fun z z' => fun n hn => ?_⟩
        · have z1 := h2.nil_iff.mp z
          subst z1
          exact qE q ex (Is.tupI k1 k2)
        · have z1 := k2.nil_iff.mp z'
          subst z1
          refine qE q ex (Is.tupI h1 ?_)
          rw [List.append_nil]
          exact h2
        · obtain ⟨g1, g2⟩ := new_tup (C := km X) ex hn (h2.app k2)
          exact q _ _ _ g1 g2
      · cases e
    | _ => cases e
  | lst l =>
    cases y with
    | lst r =>
      simp only [gAdd] at e
      split at e
      · rename_i hl
        obtain rfl := Option.some.inj e
        obtain ⟨p, vs, rfl, h1, h2⟩ := ix.lst ex
        obtain ⟨p', ws, rfl, k1, k2⟩ := iy.lst ex
        refine op_cat pins s σ H _ _ a b Q I ra rb ⟨p, p', vs, ws, rfl, rfl, h1, k1, sz_of (by rw [← h2.length, ← k2.length]; exact hl), fun n hn => ?_⟩
        obtain ⟨g1, g2⟩ := new_lst (C := km X) ex hn (h2.app k2)
        exact q _ _ _ g1 g2
      · cases e
    | _ => cases e
  | _ => cases y <;> cases e
theorem o_int {op : Operator} {g : T → T → Option T} {Cd : Int → Int → Prop} {w : Int → Int → Int} (ho : OpR X (binaryOp op) (rI Cd fun i j => .int (w i j)))
    (hg : ∀ x y t, g x y = some t → ∃ i j, x = .int i ∧ y = .int j ∧ Cd i j ∧ t = .int (w i j)) : OpR X (binaryOp op) (rG (km X) .E g) := by
  intro pins s σ H v u a b Q I ra rb h
  obtain ⟨x, y, G, t, ex, ix, iy, e, q⟩ := h
  obtain ⟨i, j, rfl, rfl, c, rfl⟩ := hg x y t e
  obtain rfl := ix.int
  obtain rfl := iy.int
  exact ho pins s σ H _ _ a b Q I ra rb ⟨i, j, rfl, rfl, c, qE q ex Is.intI⟩
theorem o_sub : OpR X (binaryOp .Sub) (rG (km X) .E gSubI) := by
  intro pins s σ H v u a b Q I ra rb h
  obtain ⟨x, y, G, t, ex, ix, iy, e, q⟩ := h
  cases x <;> cases y <;> first | cases e | skip
  rename_i i j
  obtain rfl := ix.int
  obtain rfl := iy.int
  exact op_sub pins s σ H _ _ a b Q I ra rb ⟨i, j, rfl, rfl, qE q ex Is.intI⟩
theorem flat_rep {H : Hp} {l : List T} {vs : List V} (h : IsL C H l vs) : ∀ k : Nat, IsL C H (List.replicate k l).flatten (List.replicate k vs).flatten
  | 0 => IsL.nil
  | k + 1 => by
    rw [List.replicate_succ, List.replicate_succ, List.flatten_cons, List.flatten_cons]
    exact h.app (flat_rep h k)
theorem o_mul : OpR X (binaryOp .Mult) (rG (km X) .E gMul) := by
  intro pins s σ H v u a b Q I ra rb h
  obtain ⟨x, y, G, t, ex, ix, iy, e, q⟩ := h
  cases x with
  | int i =>
    cases y with
    | int j =>
      simp only [gMul] at e
      split at e
      · rename_i hc
        obtain rfl := Option.some.inj e
        obtain rfl := ix.int
        obtain rfl := iy.int
        exact op_mul pins s σ H _ _ a b Q I ra rb ⟨i, j, rfl, rfl, hc, qE q ex Is.intI⟩
      · cases e
    | _ => cases e
  | lst l =>
    cases y with
    | int k =>
      simp only [gMul] at e
      split at e
      · rename_i hc
        obtain rfl := Option.some.inj e
        obtain ⟨p, vs, rfl, h1, h2⟩ := ix.lst ex
        obtain rfl := iy.int
        refine op_rep pins s σ H _ _ a b Q I ra rb ⟨p, k, vs, rfl, rfl, h1, by omega, by omega, sz_of (by rw [← h2.length]; exact hc.2.1), fun n hn => ?_⟩
        obtain ⟨g1, g2⟩ := new_lst (C := km X) ex hn (flat_rep h2 k.toNat)
        exact q _ _ _ g1 g2
      · cases e
    | _ => cases e
  | _ => cases y <;> cases e
theorem o_div : OpR X (binaryOp .FloorDiv) (rG (km X) .E gDiv) := o_int op_fdiv fun x y t e => by
  cases x <;> cases y <;> first | cases e | skip
  simp only [gDiv] at e
  split at e
  · rename_i c
    exact ⟨_, _, rfl, rfl, c, (Option.some.inj e).symm⟩
  · cases e
theorem o_mod : OpR X (binaryOp .Mod) (rG (km X) .E gMod) := o_int op_mod fun x y t e => by
  cases x <;> cases y <;> first | cases e | skip
  simp only [gMod] at e
  split at e
  · rename_i c
    exact ⟨_, _, rfl, rfl, c, (Option.some.inj e).symm⟩
  · cases e
theorem o_pow : OpR X (binaryOp .Pow) (rG (km X) .E gPow) := o_int op_pow fun x y t e => by
  cases x <;> cases y <;> first | cases e | skip
  simp only [gPow] at e
  split at e
  · rename_i c
    exact ⟨_, _, rfl, rfl, c, (Option.some.inj e).symm⟩
  · cases e
theorem o_I {op : CmpOp} {w : Int → Int → Bool} (ho : OpR X (compareOp op) (rI0 fun i j => .bl (w i j))) : OpR X (compareOp op) (rG (km X) .E (gI w)) := by
  intro pins s σ H v u a b Q I ra rb h
  obtain ⟨x, y, G, t, ex, ix, iy, e, q⟩ := h
  cases x <;> cases y <;> first | cases e | skip
  rename_i i j
  obtain rfl := ix.int
  obtain rfl := iy.int
  exact ho pins s σ H _ _ a b Q I ra rb ⟨i, j, rfl, rfl, qE q ex Is.blI⟩
theorem o_lt : OpR X (compareOp .Lt) (rG (km X) .E gLt) := o_I op_lt
theorem o_le : OpR X (compareOp .LtE) (rG (km X) .E gLe) := o_I op_le
theorem o_gt : OpR X (compareOp .Gt) (rG (km X) .E gGt) := o_I op_gt
theorem o_ge : OpR X (compareOp .GtE) (rG (km X) .E gGe) := o_I op_ge
theorem o_eq (hu : X.A.units + 64 < cLine) : OpR X (compareOp .Eq) (rG (km X) .E gEq) := by
  intro pins s σ H v u a b Q I ra rb h
  obtain ⟨x, y, G, t, ex, ix, iy, e, q⟩ := h
  unfold gEq at e
  split at e
  · rename_i c
    have c' := Bool.and_eq_true_iff.mp c
    obtain rfl := Option.some.inj e
    refine op_eqD hu pins s σ H _ _ a b Q I ra rb ⟨pd x, pd y, Is.dp 20 x v c'.1 (ix.is ex), Is.dp 20 y u c'.2 (iy.is ex), shaped_okD c'.1, shaped_okD c'.2, ?_⟩
    rw [eqT_pd 20 20 x y c'.1 c'.2]
    exact qE q ex Is.blI
  · cases e
theorem o_ne (hu : X.A.units + 64 < cLine) : OpR X (compareOp .NotEq) (rG (km X) .E gNe) := by
  intro pins s σ H v u a b Q I ra rb h
  obtain ⟨x, y, G, t, ex, ix, iy, e, q⟩ := h
  unfold gNe at e
  split at e
  · rename_i c
    have c' := Bool.and_eq_true_iff.mp c
    obtain rfl := Option.some.inj e
    refine op_neD hu pins s σ H _ _ a b Q I ra rb ⟨pd x, pd y, Is.dp 20 x v c'.1 (ix.is ex), Is.dp 20 y u c'.2 (iy.is ex), shaped_okD c'.1, shaped_okD c'.2, ?_⟩
    rw [eqT_pd 20 20 x y c'.1 c'.2]
    exact qE q ex Is.blI
  · cases e
theorem isN_dec {x : T} {v : V} (hx : ∀ n, x ≠ .fn n) (h : IsS C H G x v) : decide (v = .non) = x.isNon := by
  cases x with
  | non => rw [h.non]; rfl
  | bl b => rw [h.bl]; rfl
  | int b => rw [h.int]; rfl
  | str b => rw [h.str]; rfl
  | ty b => rw [h.ty]; rfl
  | fn n => exact absurd rfl (hx n)
  | tup l => obtain ⟨a, _, rfl, _⟩ := h.tup; rfl
  | fro l => obtain ⟨a, rfl, _⟩ := h.fro; rfl
  | lst l =>
    rcases h with h | ⟨a, o, rfl, _⟩
    · unfold Is at h
      obtain ⟨a, _, rfl, _⟩ := h
      rfl
    · rfl
  | dic l l' =>
    rcases h with h | ⟨a, o, rfl, _⟩
    · unfold Is at h
      obtain ⟨a, _, rfl, _⟩ := h
      rfl
    · rfl
def T.isFn : T → Bool
  | .fn _ => true
  | _ => false
theorem ne_fn {x : T} (h : x.isFn = false) : ∀ n, x ≠ .fn n := fun n e => by subst e; cases h
def gIsN' (x y : T) : Option T := if y.isNon && !x.isFn then some (.bl x.isNon) else none
def gNotN' (x y : T) : Option T := if y.isNon && !x.isFn then some (.bl (!x.isNon)) else none
theorem isNon_eq {y : T} (h : y.isNon = true) : y = .non := by cases y <;> first | rfl | cases h
theorem o_isN : OpR X (compareOp .Is) (rG (km X) .E gIsN') := by
  intro pins s σ H v u a b Q I ra rb h
  obtain ⟨x, y, G, t, ex, ix, iy, e, q⟩ := h
  unfold gIsN' at e
  split at e
  · rename_i c
    have c' := Bool.and_eq_true_iff.mp c
    obtain rfl := Option.some.inj e
    have ey := isNon_eq c'.1
    subst ey
    refine op_isN pins s σ H _ _ a b Q I ra rb ⟨iy.non, ?_⟩
    rw [isN_dec (ne_fn (by simpa using c'.2)) ix]
    exact qE q ex Is.blI
  · cases e
theorem o_notN : OpR X (compareOp .IsNot) (rG (km X) .E gNotN') := by
  intro pins s σ H v u a b Q I ra rb h
  obtain ⟨x, y, G, t, ex, ix, iy, e, q⟩ := h
  unfold gNotN' at e
  split at e
  · rename_i c
    have c' := Bool.and_eq_true_iff.mp c
    obtain rfl := Option.some.inj e
    have ey := isNon_eq c'.1
    subst ey
    refine op_notN pins s σ H _ _ a b Q I ra rb ⟨iy.non, ?_⟩
    rw [isN_dec (ne_fn (by simpa using c'.2)) ix]
    exact qE q ex Is.blI
  · cases e
theorem flatV_of {x : T} {v : V} (f : x.flat = true) (h : IsS C H G x v) : flatV v = true := by
  cases x with
  | non => rw [h.non]; rfl
  | bl b => rw [h.bl]; rfl
  | int b => rw [h.int]; rfl
  | str b => rw [h.str]; rfl
  | _ => cases f
theorem eqV_of {x y : T} {v u : V} (f : x.flat = true) (k : y.flat = true) (h : IsS C H G x v) (h' : IsS C H G y u) : eqV v u = eqT x y := by
  cases x with
  | non =>
    rw [h.non]
    cases y with
    | non => rw [h'.non]; simp [eqV, eqT]
    | bl b => rw [h'.bl]; simp [eqV, eqT]
    | int b => rw [h'.int]; simp [eqV, eqT]
    | str b => rw [h'.str]; simp [eqV, eqT]
    | _ => cases k
  | bl c =>
    rw [h.bl]
    cases y with
    | non => rw [h'.non]; simp [eqV, eqT]
    | bl b => rw [h'.bl]; simp [eqV, eqT]
    | int b => rw [h'.int]; simp [eqV, eqT]
    | str b => rw [h'.str]; simp [eqV, eqT]
    | _ => cases k
  | int c =>
    rw [h.int]
    cases y with
    | non => rw [h'.non]; simp [eqV, eqT]
    | bl b => rw [h'.bl]; simp [eqV, eqT]
    | int b => rw [h'.int]; simp [eqV, eqT]
    | str b => rw [h'.str]; simp [eqV, eqT]
    | _ => cases k
  | str c =>
    rw [h.str]
    cases y with
    | non => rw [h'.non]; simp [eqV, eqT]
    | bl b => rw [h'.bl]; simp [eqV, eqT]
    | int b => rw [h'.int]; simp [eqV, eqT]
    | str b => rw [h'.str]; simp [eqV, eqT]
    | _ => cases k
  | _ => cases f
theorem all_flat : ∀ {l : List T} {vs : List V}, IsL C G l vs → l.all T.flat = true → vs.all flatV = true
  | [], _, h, _ => by unfold IsL at h; subst h; rfl
  | t :: l, _, h, f => by
    unfold IsL at h
    obtain ⟨v, r, rfl, h2, h3⟩ := h
    have f' := Bool.and_eq_true_iff.mp (by simpa only [List.all_cons] using f)
    rw [List.all_cons, flatV_of (C := C) (H := G) f'.1 (.inl h2), all_flat h3 f'.2]
    rfl
theorem any_eq {x : T} {v : V} (fx : x.flat = true) (hx : IsS C H G x v) : ∀ {l : List T} {vs : List V}, IsL C G l vs → l.all T.flat = true → inV v vs = l.any fun z => eqT z x
  | [], _, h, _ => by unfold IsL at h; subst h; rfl
  | t :: l, _, h, f => by
    unfold IsL at h
    obtain ⟨w, r, rfl, h2, h3⟩ := h
    have f' := Bool.and_eq_true_iff.mp (by simpa only [List.all_cons] using f)
    have ih := any_eq fx hx h3 f'.2
    unfold inV at ih ⊢
    rw [List.any_cons, List.any_cons, eqV_of f'.1 fx (.inl h2) hx, ih]
theorem o_in : OpR X (compareOp .In) (rG (km X) .E (gIn false)) := by
  intro pins s σ H v u a b Q I ra rb h
  obtain ⟨x, y, G, t, ex, ix, iy, e, q⟩ := h
  cases y with
  | tup l =>
    simp only [gIn] at e
    split at e
    · rename_i c
      have c' := Bool.and_eq_true_iff.mp c
      obtain rfl := Option.some.inj e
      obtain ⟨p, vs, rfl, h1, h2⟩ := iy.tup
      refine op_in_seq pins s σ H _ _ a b Q I ra rb ⟨p, vs, rfl, .inr (ex_t ex h1), flatV_of c'.1 ix, all_flat h2 c'.2, ?_⟩
      rw [any_eq c'.1 ix h2 c'.2]
      exact qE q ex Is.blI
    · cases e
  | lst l =>
    simp only [gIn] at e
    split at e
    · rename_i c
      have c' := Bool.and_eq_true_iff.mp c
      obtain rfl := Option.some.inj e
      obtain ⟨p, vs, rfl, h1, h2⟩ := iy.lst ex
      refine op_in_seq pins s σ H _ _ a b Q I ra rb ⟨p, vs, rfl, .inl (SqL.of h1), flatV_of c'.1 ix, all_flat h2 c'.2, ?_⟩
      rw [any_eq c'.1 ix h2 c'.2]
      exact qE q ex Is.blI
    · cases e
  | _ => cases e
theorem o_notIn : OpR X (compareOp .NotIn) (rG (km X) .E (gIn true)) := by
  intro pins s σ H v u a b Q I ra rb h
  obtain ⟨x, y, G, t, ex, ix, iy, e, q⟩ := h
  cases y with
  | tup l =>
    simp only [gIn] at e
    split at e
    · rename_i c
      have c' := Bool.and_eq_true_iff.mp c
      obtain rfl := Option.some.inj e
      obtain ⟨p, vs, rfl, h1, h2⟩ := iy.tup
      refine op_notIn_seq pins s σ H _ _ a b Q I ra rb ⟨p, vs, rfl, .inr (ex_t ex h1), flatV_of c'.1 ix, all_flat h2 c'.2, ?_⟩
      rw [any_eq c'.1 ix h2 c'.2]
      exact qE q ex Is.blI
    · cases e
  | lst l =>
    simp only [gIn] at e
    split at e
    · rename_i c
      have c' := Bool.and_eq_true_iff.mp c
      obtain rfl := Option.some.inj e
      obtain ⟨p, vs, rfl, h1, h2⟩ := iy.lst ex
      refine op_notIn_seq pins s σ H _ _ a b Q I ra rb ⟨p, vs, rfl, .inl (SqL.of h1), flatV_of c'.1 ix, all_flat h2 c'.2, ?_⟩
      rw [any_eq c'.1 ix h2 c'.2]
      exact qE q ex Is.blI
    · cases e
  | _ => cases e

/-! ### an item -/
theorem i_ix : IxR X (rG (km X) .E gIx) := by
  intro value slice pins s σ H v u a b Q I ra rb h hs
  obtain ⟨x, y, G, t, ex, ix, iy, e, q⟩ := h
  cases x with
  | lst l =>
    cases y with
    | int i =>
      obtain ⟨p, vs, rfl, h1, h2⟩ := ix.lst ex
      obtain rfl := iy.int
      obtain ⟨z, e1, e2⟩ := h2.at e
      exact ix_list value slice pins s σ H _ _ a b Q I ra rb ⟨p, vs, i, z, rfl, rfl, SqL.of h1, e1, qE q ex e2⟩ hs
    | _ => cases e
  | tup l =>
    cases y with
    | int i =>
      obtain ⟨p, vs, rfl, h1, h2⟩ := ix.tup
      obtain rfl := iy.int
      obtain ⟨z, e1, e2⟩ := h2.at e
      exact ix_tup value slice pins s σ H _ _ a b Q I ra rb ⟨p, vs, i, z, rfl, rfl, ex_t ex h1, e1, qE q ex e2⟩ hs
    | _ => cases e
  | fro l =>
    cases y with
    | int i =>
      obtain ⟨p, rfl, h1⟩ := ix.fro
      obtain rfl := iy.int
      have e' : (atI l i).map T.int = some t := e
      cases q1 : atI l i with
      | none => rw [q1] at e'; cases e'
      | some n =>
        rw [q1] at e'
        obtain rfl := Option.some.inj e'
        obtain ⟨j, e1, e2⟩ := atI_len (ys := l.map V.int) (by rw [List.length_map]) q1
        have e3 := e2 (.int n) (by rw [List.getElem?_map, e1]; rfl)
        exact ix_list value slice pins s σ H _ _ a b Q I ra rb ⟨p, l.map V.int, i, .int n, rfl, rfl, ex_l ex h1, e3, qE q ex Is.intI⟩ hs
    | _ => cases e
  | _ => cases y <;> cases e
end
section
variable {X : Cx} {B : BS} {W : WX} {m : Md} {a b e : Expr} {fa fb f : FE} {pos : Pos}
theorem d_ix (ha : DE X B W .S a fa) (hb : DE X B W .S b fb) (hs : PlainIx b := by exact fun _ _ => rfl) : DE X B W .E (.Subscript a b pos) (eB gIx fa fb) :=
  PE.imp (pe_ix i_ix ha hb hs) fun σ H Q ⟨ρ, G, s, p⟩ => rG_of s p
/-- -e -/
def eNeg (fa : FE) : FE := fun ρ => (fa ρ).bind fun x => match x with | .int i => .ok (.int (-i)) | _ => .bad
theorem d_neg (ha : DE X B W .S a fa) : DE X B W .E (.UnaryOp .USub a pos) (eNeg fa) :=
  PE.imp (pe_un un_neg ha) fun σ H Q ⟨ρ, G, s, p⟩ => bindS s p fun x v H1 G1 g s1 i1 p1 => by
    cases x with
    | int i => exact ⟨i, i1.int, qE p1 s1.exGH Is.intI⟩
    | _ => exact p1.elim
end
end VS

namespace VS
open PySem PySem.Spec PyProof.Rows L2 Evl

/-! ### argument lists -/
abbrev FA := Ev' → Res (List T)
def aNil : FA := fun _ => .ok []
def aCons (fa : FE) (fr : FA) : FA := fun ρ => (fa ρ).bind fun x => (fr ρ).bind fun xs => .ok (x :: xs)
def IsSL (C : KM) (H G : Hp) : List T → List V → Prop
  | [], vs => vs = []
  | t :: ts, vs => ∃ v r, vs = v :: r ∧ IsS C H G t v ∧ IsSL C H G ts r
theorem IsSL.mono {C : KM} {H G H' G' : Hp} (g : Gr H G H' G') : ∀ {ts : List T} {vs : List V}, IsSL C H G ts vs → IsSL C H' G' ts vs
  | [], _, h => h
  | t :: ts, _, h => by
    obtain ⟨v, r, rfl, h1, h2⟩ := h
    exact ⟨v, r, rfl, h1.mono g, IsSL.mono g h2⟩
theorem IsSL.is {C : KM} {H G : Hp} (e : Ex G H) : ∀ {ts : List T} {vs : List V}, IsSL C H G ts vs → IsL C H ts vs
  | [], _, h => by unfold IsL; exact h
  | t :: ts, _, h => by
    obtain ⟨v, r, rfl, h1, h2⟩ := h
    exact IsL.cons (h1.is e) (IsSL.is e h2)
def Md.IsL (C : KM) (m : Md) (ts : List T) (vs : List V) (H' G' : Hp) : Prop :=
  match m with
  | .E => VS.IsL C G' ts vs
  | _ => IsSL C H' G' ts vs
def PostA (C : KM) (m : Md) (W : WX) (σ : L2.St) (H G : Hp) (r : Res (List T)) (Q : List V → Hp → Prop) : Prop :=
  match r with
  | .ok ts => ∀ vs H' G', Gr H G H' G' → m.IsL C ts vs H' G' → Q vs H'
  | .ex x p => ∀ cls d H' G', Gr H G H' G' → XAt C x p cls d G' → W cls d σ H'
  | .bad => False
theorem PostA.mono {C : KM} {m : Md} {W : WX} {σ : L2.St} {H G H1 G1 : Hp} {r : Res (List T)} {Q : List V → Hp → Prop} (g : Gr H G H1 G1) (h : PostA C m W σ H G r Q) : PostA C m W σ H1 G1 r Q := by
  cases r with
  | ok t => exact fun v H' G' g' i => h v H' G' (g.trans g') i
  | ex x p => exact fun cls d H' G' g' i => h cls d H' G' (g.trans g') i
  | bad => exact h
def tMA (C : KM) (B : BS) (m : Md) (W : WX) (f : FA) : TA := fun σ H Q => ∃ ρ G, SR C B σ H ρ G ∧ PostA C m W σ H G (f ρ) Q
def DA (X : Cx) (B : BS) (W : WX) (m : Md) (es : List Expr) (f : FA) : Prop := PA X es (tMA (km X) B m W f)
section
variable {C : KM} {B : BS} {m : Md} {W : WX} {σ : L2.St} {H G : Hp} {ρ : Ev'}
/-- an argument list, then what follows -/
theorem bindA {fa : FA} {k : List T → Res T} {Q : VK} {Q1 : List V → Hp → Prop} (h : SR C B σ H ρ G) (p : Post C m W σ H G ((fa ρ).bind k) Q) (ma : Md)
    (c : ∀ ts vs H1 G1, Gr H G H1 G1 → SR C B σ H1 ρ G1 → ma.IsL C ts vs H1 G1 → Post C m W σ H1 G1 (k ts) Q → Q1 vs H1) : tMA C B ma W fa σ H Q1 := by
  refine ⟨ρ, G, h, ?_⟩
  cases e : fa ρ with
  | ok t =>
    rw [e] at p
    exact fun v H' G' g i => c t v H' G' g (h.ext g) i (p.mono g)
  | ex x p' =>
    rw [e] at p
    exact p
  | bad =>
    rw [e] at p
    exact p.elim
end
section
variable {X : Cx} {B : BS} {W : WX} {m : Md} {a b e : Expr} {fa fb f : FE} {fr : FA} {pos : Pos} {es : List Expr}
theorem a_nil : DA X B W m [] aNil := PA.imp pa_nil fun σ H Q ⟨ρ, G, s, p⟩ => p [] H G (Gr.refl s.exGH) (by cases m <;> first | exact IsL.nil | rfl)
theorem a_consE (ha : DE X B W .E a fa) (hr : DA X B W .E es fr) (hs : starEach (a :: es) X.env = (false, eval a X.env) :: starEach es X.env := by rfl) : DA X B W .E (a :: es) (aCons fa fr) :=
  PA.imp (pa_cons ha hr hs) fun σ H Q ⟨ρ, G, s, p⟩ => by
    refine ⟨ρ, G, s, ?_⟩
    unfold aCons at p
    cases ea : fa ρ with
    | ok t =>
      rw [ea] at p
      intro v H1 G1 g1 i1
      refine ⟨ρ, G1, s.ext g1, ?_⟩
      cases er : fr ρ with
      | ok ts =>
        rw [er] at p
        intro vs H2 G2 g2 i2
        exact p (v :: vs) H2 G2 (g1.trans g2) (IsL.cons (Is.mono g2.eg _ _ i1) i2)
      | ex x q =>
        rw [er] at p
        exact fun cls d H' G' g i => p cls d H' G' (g1.trans g) i
      | bad =>
        rw [er] at p
        exact p
    | ex x q =>
      rw [ea] at p
      exact p
    | bad =>
      rw [ea] at p
      exact p
theorem a_consS (ha : DE X B W .S a fa) (hr : DA X B W .S es fr) (hs : starEach (a :: es) X.env = (false, eval a X.env) :: starEach es X.env := by rfl) : DA X B W .S (a :: es) (aCons fa fr) :=
  PA.imp (pa_cons ha hr hs) fun σ H Q ⟨ρ, G, s, p⟩ => by
    refine ⟨ρ, G, s, ?_⟩
    unfold aCons at p
    cases ea : fa ρ with
    | ok t =>
      rw [ea] at p
      intro v H1 G1 g1 i1
      refine ⟨ρ, G1, s.ext g1, ?_⟩
      cases er : fr ρ with
      | ok ts =>
        rw [er] at p
        intro vs H2 G2 g2 i2
        exact p (v :: vs) H2 G2 (g1.trans g2) ⟨v, vs, rfl, IsS.mono g2 i1, i2⟩
      | ex x q =>
        rw [er] at p
        exact fun cls d H' G' g i => p cls d H' G' (g1.trans g) i
      | bad =>
        rw [er] at p
        exact p
    | ex x q =>
      rw [ea] at p
      exact p
    | bad =>
      rw [ea] at p
      exact p

/-! ### displays -/
def eTup (fa : FA) : FE := fun ρ => (fa ρ).bind fun ts => if ts.length ≤ 100000 then .ok (.tup ts) else .bad
def eLst (fa : FA) : FE := fun ρ => (fa ρ).bind fun ts => if ts.length ≤ 100000 then .ok (.lst ts) else .bad
theorem d_tup {x1} (h : DA X B W .E es fr) : DE X B W .E (.Tuple es x1 pos) (eTup fr) :=
  PE.imp (pe_tup h) fun σ H Q ⟨ρ, G, s, p⟩ => bindA s p .E fun ts vs H1 G1 g s1 i p1 => by
    split at p1
    · rename_i hl
      refine ⟨sz_of (by rw [← IsL.length i]; exact hl), fun n hn => ?_⟩
      obtain ⟨g1, g2⟩ := new_tup (C := km X) s1.exGH hn i
      exact p1 _ _ _ g1 g2
    · exact p1.elim
theorem d_lst (h : DA X B W .E es fr) : DE X B W .N (.List es pos) (eLst fr) :=
  PE.imp (pe_lst h) fun σ H Q ⟨ρ, G, s, p⟩ => bindA s p .E fun ts vs H1 G1 g s1 i p1 => by
    split at p1
    · rename_i hl
      refine ⟨sz_of (by rw [← IsL.length i]; exact hl), fun n hn => ?_⟩
      exact p1 _ _ G1 (Gr.own s1.exGH hn) ⟨n, _, rfl, hn, upd_same, ex_none s1.exGH hn, vs, rfl, i⟩
    · exact p1.elim

/-! ### built-in functions of one argument -/
def rC (C : KM) (m : Md) (g : T → Option T) : List V → Hp → VK → Prop := fun vs H Q => ∃ x v G t, vs = [v] ∧ Ex G H ∧ IsS C H G x v ∧ g x = some t ∧ ∀ z H' G', Gr H G H' G' → m.Is C t z H H' G' → Q z H'
def eU (g : T → Option T) (fa : FE) : FE := fun ρ => (fa ρ).bind fun x => Res.of (g x)
theorem rC_of {C : KM} {σ : L2.St} {H G : Hp} {ρ : Ev'} {Q : VK} {g : T → Option T} (h : SR C B σ H ρ G) (p : Post C m W σ H G (eU g fa ρ) Q) : tCB (rC C m g) (tCons (tM C B .S W fa) tNil) σ H Q := by
  refine bindS h p fun x v H1 G1 g1 s1 i1 p1 => ?_
  obtain ⟨t, e, q⟩ := p1.of
  exact ⟨x, v, G1, t, rfl, s1.exGH, i1, e, q⟩
theorem d_cB {id : String} {x : Str} {p : Pos} {g : T → Option T} (hc : CallR X (.builtin id) (rC (km X) m g)) (hg : Gl X x) (hm : X.mg x = none) (hv : bootBuiltins x = some (.builtin id)) (ha : DE X B W .S a fa) (hn : x ≠ "__name__" := by decide)
    (hdb : (x == ("__debug__" : Str)) = false := by decide) (he : starEach [a] X.env = (false, eval a X.env) :: starEach [] X.env := by rfl) (hpl : (backTo pos (starEach [] X.env)).any (·.1) = false := by rfl) :
    DE X B W m (.Call (.Name x p) [a] [] pos) (eU g fa) := PE.imp (pe_callB hc hg hm hv (pa_cons ha pa_nil he) hn hdb he hpl) fun σ H Q ⟨ρ, G, s, q⟩ => rC_of s q
theorem d_cT {n : String} {x : Str} {p : Pos} {g : T → Option T} (hc : CallR X (.type n) (rC (km X) m g)) (hg : Gl X x) (hm : X.mg x = none) (hv : bootBuiltins x = some (.type n)) (ha : DE X B W .S a fa) (hn : x ≠ "__name__" := by decide)
    (hdb : (x == ("__debug__" : Str)) = false := by decide) (he : starEach [a] X.env = (false, eval a X.env) :: starEach [] X.env := by rfl) (hpl : (backTo pos (starEach [] X.env)).any (·.1) = false := by rfl) :
    DE X B W m (.Call (.Name x p) [a] [] pos) (eU g fa) := PE.imp (pe_callTy hc hg hm hv (pa_cons ha pa_nil he) hn hdb he hpl) fun σ H Q ⟨ρ, G, s, q⟩ => rC_of s q
end
def gLen : T → Option T
  | .lst l => some (.int l.length)
  | .tup l => some (.int l.length)
  | .fro l => some (.int l.length)
  | .str x => if x.length ≤ 100000 then some (.int x.length) else none
  | _ => none
def gInt : T → Option T
  | .int i => some (.int i)
  | .bl b => some (.int (if b then 1 else 0))
  | _ => none
def gList : T → Option T
  | .lst l => some (.lst l)
  | .tup l => some (.lst l)
  | _ => none
def gTuple : T → Option T
  | .lst l => some (.tup l)
  | .tup l => some (.tup l)
  | _ => none
def T.bl? : T → Option Bool
  | .bl b => some b
  | _ => none
def bls : List T → Option (List Bool)
  | [] => some []
  | .bl b :: r => (bls r).map (b :: ·)
  | _ => none
def gAll : T → Option T
  | .lst l => (bls l).map fun bs => .bl (bs.all id)
  | _ => none
def gAny : T → Option T
  | .lst l => (bls l).map fun bs => .bl (bs.any id)
  | _ => none
def tyName : T → Option String
  | .non => some "NoneType"
  | .bl _ => some "bool"
  | .int _ => some "int"
  | .str _ => some "str"
  | .tup _ => some "tuple"
  | .lst _ => some "list"
  | .dic _ _ => some "dict"
  | _ => none
def gType (x : T) : Option T := (tyName x).map T.ty
section
variable {X : Cx} {C : KM} {H G : Hp}
theorem c_len : CallR X (.builtin "len") (rC (km X) .E gLen) := by
  intro pins s σ H xs us Q I r h
  obtain ⟨x, v, G, t, rfl, ex, ix, e, q⟩ := h
  cases x with
  | lst l =>
    obtain rfl := Option.some.inj e
    obtain ⟨a, vs, rfl, h1, h2⟩ := ix.lst ex
    refine call_len_seq pins s σ H _ us Q I r ⟨a, vs, rfl, .inl (SqL.of h1), ?_⟩
    rw [← h2.length]
    exact qE q ex Is.intI
  | tup l =>
    obtain rfl := Option.some.inj e
    obtain ⟨a, vs, rfl, h1, h2⟩ := ix.tup
    refine call_len_seq pins s σ H _ us Q I r ⟨a, vs, rfl, .inr (ex_t ex h1), ?_⟩
    rw [← h2.length]
    exact qE q ex Is.intI
  | fro l =>
    obtain rfl := Option.some.inj e
    obtain ⟨a, rfl, h1⟩ := ix.fro
    refine call_len_seq pins s σ H _ us Q I r ⟨a, l.map V.int, rfl, .inl (ex_l ex h1), ?_⟩
    rw [List.length_map]
    exact qE q ex Is.intI
  | str z =>
    simp only [gLen] at e
    split at e
    · rename_i hl
      obtain rfl := Option.some.inj e
      obtain rfl := ix.str
      exact call_len_str pins s σ H _ us Q I r ⟨z, rfl, sz_of hl, qE q ex Is.intI⟩
    · cases e
  | _ => cases e
theorem c_int : CallR X (.type "int") (rC (km X) .E gInt) := by
  intro pins s σ H xs us Q I r h
  obtain ⟨x, v, G, t, rfl, ex, ix, e, q⟩ := h
  cases x with
  | int i =>
    obtain rfl := Option.some.inj e
    obtain rfl := ix.int
    exact call_int1 pins s σ H _ us Q I r (.inl ⟨i, rfl, qE q ex Is.intI⟩)
  | bl b =>
    obtain rfl := Option.some.inj e
    obtain rfl := ix.bl
    exact call_int1 pins s σ H _ us Q I r (.inr ⟨b, rfl, qE q ex Is.intI⟩)
  | _ => cases e
theorem c_list : CallR X (.type "list") (rC (km X) .N gList) := by
  intro pins s σ H xs us Q I r h
  obtain ⟨x, v, G, t, rfl, ex, ix, e, q⟩ := h
  cases x with
  | lst l =>
    obtain rfl := Option.some.inj e
    obtain ⟨a, vs, rfl, h1, h2⟩ := ix.lst ex
    exact call_list_of pins s σ H _ us Q I r ⟨a, vs, rfl, .inl (SqL.of h1), fun p hp => q _ _ G (Gr.own ex hp) ⟨p, _, rfl, hp, upd_same, ex_none ex hp, vs, rfl, h2⟩⟩
  | tup l =>
    obtain rfl := Option.some.inj e
    obtain ⟨a, vs, rfl, h1, h2⟩ := ix.tup
    exact call_list_of pins s σ H _ us Q I r ⟨a, vs, rfl, .inr (ex_t ex h1), fun p hp => q _ _ G (Gr.own ex hp) ⟨p, _, rfl, hp, upd_same, ex_none ex hp, vs, rfl, h2⟩⟩
  | _ => cases e
theorem c_tuple : CallR X (.type "tuple") (rC (km X) .E gTuple) := by
  intro pins s σ H xs us Q I r h
  obtain ⟨x, v, G, t, rfl, ex, ix, e, q⟩ := h
  cases x with
  | lst l =>
    obtain rfl := Option.some.inj e
    obtain ⟨a, vs, rfl, h1, h2⟩ := ix.lst ex
    refine call_tuple_of pins s σ H _ us Q I r ⟨a, vs, rfl, .inl ⟨SqL.of h1, fun p hp => ?_⟩⟩
    obtain ⟨g1, g2⟩ := new_tup (C := km X) ex hp h2
    exact q _ _ _ g1 g2
  | tup l =>
    obtain rfl := Option.some.inj e
    obtain ⟨a, vs, rfl, h1, h2⟩ := ix.tup
    exact call_tuple_of pins s σ H _ us Q I r ⟨a, vs, rfl, .inr ⟨ex_t ex h1, qE q ex (Is.tupI h1 h2)⟩⟩
  | _ => cases e
theorem bls_vals : ∀ {l : List T} {vs : List V} {bs : List Bool}, IsL C G l vs → bls l = some bs → vs = bs.map V.bl
  | [], _, bs, h, e => by
    unfold IsL at h; subst h
    obtain rfl := Option.some.inj e
    rfl
  | t :: l, _, bs, h, e => by
    unfold IsL at h
    obtain ⟨v, r, rfl, h2, h3⟩ := h
    cases t with
    | bl b =>
      have e' : (bls l).map (b :: ·) = some bs := e
      cases q : bls l with
      | none => rw [q] at e'; cases e'
      | some bs' =>
        rw [q] at e'
        obtain rfl := Option.some.inj e'
        have ih := bls_vals h3 q
        unfold Is at h2
        rw [ih, h2]
        rfl
    | _ => cases e
theorem c_all (hc : X.calm = true) : CallR X (.builtin "all") (rC (km X) .E gAll) := by
  intro pins s σ H xs us Q I r h
  obtain ⟨x, v, G, t, rfl, ex, ix, e, q⟩ := h
  cases x with
  | lst l =>
    have e' : (bls l).map (fun bs => T.bl (bs.all id)) = some t := e
    cases q1 : bls l with
    | none => rw [q1] at e'; cases e'
    | some bs =>
      rw [q1] at e'
      obtain rfl := Option.some.inj e'
      obtain ⟨a, vs, rfl, h1, h2⟩ := ix.lst ex
      obtain rfl := bls_vals h2 q1
      exact cr_all hc pins s σ H _ us Q I r ⟨a, bs, rfl, SqL.of h1, qE q ex Is.blI⟩
  | _ => cases e
theorem c_any (hc : X.calm = true) : CallR X (.builtin "any") (rC (km X) .E gAny) := by
  intro pins s σ H xs us Q I r h
  obtain ⟨x, v, G, t, rfl, ex, ix, e, q⟩ := h
  cases x with
  | lst l =>
    have e' : (bls l).map (fun bs => T.bl (bs.any id)) = some t := e
    cases q1 : bls l with
    | none => rw [q1] at e'; cases e'
    | some bs =>
      rw [q1] at e'
      obtain rfl := Option.some.inj e'
      obtain ⟨a, vs, rfl, h1, h2⟩ := ix.lst ex
      obtain rfl := bls_vals h2 q1
      exact cr_any hc pins s σ H _ us Q I r ⟨a, bs, rfl, SqL.of h1, qE q ex Is.blI⟩
  | _ => cases e
theorem tyB_of {x : T} {v : V} {n : String} (ex : Ex G H) (ix : IsS C H G x v) (e : tyName x = some n) : TyB C.K H v n := by
  cases x with
  | non => obtain rfl := Option.some.inj e; rw [ix.non]; exact .non
  | bl b => obtain rfl := Option.some.inj e; rw [ix.bl]; exact .bl b
  | int b => obtain rfl := Option.some.inj e; rw [ix.int]; exact .int b
  | str b => obtain rfl := Option.some.inj e; rw [ix.str]; exact .str b
  | tup l =>
    obtain rfl := Option.some.inj e
    obtain ⟨a, vs, rfl, h1, _⟩ := ix.tup
    exact .tup (ex_t ex h1)
  | lst l =>
    obtain rfl := Option.some.inj e
    obtain ⟨a, vs, rfl, h1, _⟩ := ix.lst ex
    exact .lst (SqL.of h1)
  | dic l l' =>
    obtain rfl := Option.some.inj e
    obtain ⟨a, vs, rfl, h1, _⟩ := ix.dic ex
    exact .dK h1
  | _ => cases e
theorem tyX_of {x : T} {v : V} {n : String} (ex : Ex G H) (ix : IsS C H G x v) (e : tyName x = some n) : TyX C.K H v (.type n) := by
  cases x with
  | non => obtain rfl := Option.some.inj e; rw [ix.non]; exact .base .non
  | bl b => obtain rfl := Option.some.inj e; rw [ix.bl]; exact .base (.bl b)
  | int b => obtain rfl := Option.some.inj e; rw [ix.int]; exact .base (.int b)
  | str b => obtain rfl := Option.some.inj e; rw [ix.str]; exact .base (.str b)
  | tup l =>
    obtain rfl := Option.some.inj e
    obtain ⟨a, vs, rfl, h1, _⟩ := ix.tup
    rcases ex_t ex h1 with (h | ⟨o, h⟩) | ⟨o, its, n, h, hc, _⟩
    · exact .base (.tup h)
    · exact .fTuple h
    · exact .kTuple h hc
  | lst l =>
    obtain rfl := Option.some.inj e
    obtain ⟨a, vs, rfl, h1, _⟩ := ix.lst ex
    exact .base (.lst h1)
  | dic l l' =>
    obtain rfl := Option.some.inj e
    obtain ⟨a, vs, rfl, h1, _⟩ := ix.dic ex
    exact .base (.dK h1)
  | _ => cases e
theorem c_type : CallR X (.type "type") (rC (km X) .E gType) := by
  intro pins s σ H xs us Q I r h
  obtain ⟨x, v, G, t, rfl, ex, ix, e, q⟩ := h
  unfold gType at e
  cases q1 : tyName x with
  | none => rw [q1] at e; cases e
  | some n =>
    rw [q1] at e
    obtain rfl := Option.some.inj e
    exact call_type1 pins s σ H _ us Q I r ⟨v, n, rfl, tyB_of (C := km X) ex ix q1, qE q ex (by unfold Is; rfl)⟩
def gTyIs (neg : Bool) (x y : T) : Option T :=
  match x, y with
  | .ty a, .ty b => some (.bl (if neg then !decide (a = b) else decide (a = b)))
  | _, _ => none
theorem o_tyIs : OpR X (compareOp .Is) (rG (km X) .E (gTyIs false)) := by
  intro pins s σ H v u a b Q I ra rb h
  obtain ⟨x, y, G, t, ex, ix, iy, e, q⟩ := h
  cases x <;> cases y <;> first | cases e | skip
  rename_i i j
  obtain rfl := ix.ty
  obtain rfl := iy.ty
  exact op_isTyB pins s σ H _ _ a b Q I ra rb ⟨i, j, rfl, rfl, qE q ex Is.blI⟩
theorem o_tyNot : OpR X (compareOp .IsNot) (rG (km X) .E (gTyIs true)) := by
  intro pins s σ H v u a b Q I ra rb h
  obtain ⟨x, y, G, t, ex, ix, iy, e, q⟩ := h
  cases x <;> cases y <;> first | cases e | skip
  rename_i i j
  obtain rfl := ix.ty
  obtain rfl := iy.ty
  exact op_notTyB pins s σ H _ _ a b Q I ra rb ⟨i, j, rfl, rfl, qE q ex Is.blI⟩
end

/-! ### isinstance(x, T), T a built-in type -/
def isiT (a b : String) : Bool := a == b || (a == "bool" && b == "int")
def tyOk (n : String) : Bool := ["int", "bool", "str", "tuple", "list", "dict"].contains n
theorem kitB_isi {a : T} {n m : String} (h : tyName a = some n) (k : tyOk m = true) : kitB n m = some (isiT n m) := by
  have hm : m = "int" ∨ m = "bool" ∨ m = "str" ∨ m = "tuple" ∨ m = "list" ∨ m = "dict" := by
    simp only [tyOk, List.contains_cons, List.contains_nil, Bool.or_false, Bool.or_eq_true, beq_iff_eq] at k
    exact k
  have hn : n = "NoneType" ∨ n = "int" ∨ n = "bool" ∨ n = "str" ∨ n = "tuple" ∨ n = "list" ∨ n = "dict" := by
    cases a <;> first | (obtain rfl := Option.some.inj h; simp; done) | cases h
  rcases hm with rfl | rfl | rfl | rfl | rfl | rfl <;> rcases hn with rfl | rfl | rfl | rfl | rfl | rfl | rfl <;> decide +kernel
def gIsi (m : String) (x : T) : Option T := if tyOk m then (tyName x).map fun n => .bl (isiT n m) else none
section
variable {X : Cx} {B : BS} {W : WX} {m : Md} {a b e : Expr} {fa fb f : FE} {fr : FA} {pos p p2 : Pos} {es : List Expr}
theorem d_isi {n : String} {x : Str} (hg : Gl X "isinstance") (hm : X.mg "isinstance" = none) (ha : DE X B W .S a fa) (hgt : Gl X x) (hmt : X.mg x = none) (hvt : bootBuiltins x = some (.type n)) (hnt : x ≠ "__name__" := by decide) (hdt : (x == ("__debug__" : Str)) = false := by decide)
    (hv : bootBuiltins "isinstance" = some (.builtin "isinstance") := by decide +kernel) (he : starEach [a, .Name x p2] X.env = (false, eval a X.env) :: starEach [.Name x p2] X.env := by rfl) (hpl : (backTo pos (starEach [.Name x p2] X.env)).any (·.1) = false := by rfl) :
    DE X B W .E (.Call (.Name "isinstance" p) [a, .Name x p2] [] pos) (eU (gIsi n) fa) :=
  PE.imp (pe_callB call_isi hg hm hv (pa_cons ha (pa_cons (pe_bltn (v := .ty n) hgt hmt hvt rfl hnt hdt) pa_nil) he) (by decide) (by decide) he hpl) fun σ H Q ⟨ρ, G, s, q⟩ =>
    bindS s q fun x v H1 G1 g s1 i p1 => by
      obtain ⟨t, e, q1⟩ := p1.of
      unfold gIsi at e
      split at e
      · rename_i k
        cases q2 : tyName x with
        | none => rw [q2] at e; cases e
        | some nn =>
          rw [q2] at e
          obtain rfl := Option.some.inj e
          exact ⟨v, .ty n, .type nn, .type n, isiT nn n, rfl, .ty n, tyX_of (C := km X) s1.exGH i q2, kit_ty (kitB_isi q2 k), qE q1 s1.exGH Is.blI⟩
      · cases e

/-! ### a def of the text -/
abbrev Mir := List T → Res T
def PostF (C : KM) (H G : Hp) (r : Res T) (Q : VK) (E : XK) : Prop :=
  match r with
  | .ok t => ∀ v H' G', Gr H G H' G' → Is C G' t v → Q v H'
  | .ex x p => ∀ cls d H' G', Gr H G H' G' → XAt C x p cls d G' → E cls d H'
  | .bad => False
def spD (C : KM) (n : Nat) (f : Mir) : Sp := fun vs H Q E => ∃ ts G, Ex G H ∧ IsL C G ts vs ∧ ts.length = n ∧ PostF C H G (f ts) Q E
theorem spD_len {C : KM} {n : Nat} {f : Mir} {vs : List V} {H : Hp} {Q : VK} {E : XK} (h : spD C n f vs H Q E) : vs.length = n := by
  obtain ⟨ts, G, _, h1, h2, _⟩ := h
  rw [← h1.length]
  exact h2
def Tk (X : Cx) (W : WX) : Prop := ∀ σ, PassesAt (L2.CX X.prog X.w) X σ (WE W σ)
theorem tk_of {X : Cx} {W : WX} (h : Takes X W) : Tk X W := fun σ => passAt h σ
def eCall (n : Nat) (f : Mir) (fa : FA) : FE := fun ρ => (fa ρ).bind fun ts => if ts.length = n then f ts else .bad
theorem d_call {k n : Nat} {f : Addr} {fd : FuncData} {ps : List Str} {g : Mir} {x : Str} (F : FnOk X.prog X.w X.K X.mg X.base (L2.CX X.prog X.w) k f fd ps (spD (km X) n g)) (hr : Room k X.A) (hg : Gl X x) (hm : X.mg x = some (.ref f)) (hk : PySem.W.keepIn X.K (.ref f) = true)
    (hb : Binds X.K fd ps []) (tk : Tk X W) (ha : DA X B W .E (e :: es) fr) (hdb : (x == ("__debug__" : Str)) = false := by decide) (he : starEach (e :: es) X.env = (false, eval e X.env) :: starEach es X.env := by rfl) (hpl : (backTo pos (starEach es X.env)).any (·.1) = false := by rfl) :
    DE X B W .E (.Call (.Name x p) (e :: es) [] pos) (eCall n g fr) :=
  PE.imp (pe_callS F hr hg hm hk hb tk ha hdb he hpl) fun σ H Q ⟨ρ, G, s, q⟩ => bindA s q .E fun ts vs H1 G1 gr s1 i p1 => by
    split at p1
    · rename_i hl
      refine ⟨ts, G1, s1.exGH, i, hl, ?_⟩
      cases r : g ts with
      | ok t => rw [r] at p1; exact p1
      | ex x q => rw [r] at p1; exact p1
      | bad => rw [r] at p1; exact p1.elim
    · exact p1.elim
theorem flat_is {C : KM} {H G : Hp} {t : T} {v : V} (f : t.flat = true) (h : Is C H t v) : Is C G t v := by
  cases t with
  | non => unfold Is at h ⊢; exact h
  | bl b => unfold Is at h ⊢; exact h
  | int b => unfold Is at h ⊢; exact h
  | str b => unfold Is at h ⊢; exact h
  | _ => cases f
/-- .. whose arguments are read only, the answer a plain value -/
def noPay (r : Res T) : Res T := match r with | .ok t => if t.flat then .ok t else .bad | .ex x [] => .ex x [] | _ => .bad
def eCallS (n : Nat) (f : Mir) (fa : FA) : FE := fun ρ => (fa ρ).bind fun ts => if ts.length = n then noPay (f ts) else .bad
theorem d_callS {k n : Nat} {f : Addr} {fd : FuncData} {ps : List Str} {g : Mir} {x : Str} (F : FnOk X.prog X.w X.K X.mg X.base (L2.CX X.prog X.w) k f fd ps (spD (km X) n g)) (hr : Room k X.A) (hg : Gl X x) (hm : X.mg x = some (.ref f)) (hk : PySem.W.keepIn X.K (.ref f) = true)
    (hb : Binds X.K fd ps []) (tk : Tk X W) (ha : DA X B W .S (e :: es) fr) (hdb : (x == ("__debug__" : Str)) = false := by decide) (he : starEach (e :: es) X.env = (false, eval e X.env) :: starEach es X.env := by rfl) (hpl : (backTo pos (starEach es X.env)).any (·.1) = false := by rfl) :
    DE X B W .E (.Call (.Name x p) (e :: es) [] pos) (eCallS n g fr) :=
  PE.imp (pe_callS F hr hg hm hk hb tk ha hdb he hpl) fun σ H Q ⟨ρ, G, s, q⟩ => bindA s q .S fun ts vs H1 G1 gr s1 i p1 => by
    split at p1
    · rename_i hl
      refine ⟨ts, H1, Ex.refl _, IsSL.is s1.exGH i, hl, ?_⟩
      have back : ∀ {H' G' : Hp}, Gr H1 H1 H' G' → Gr H1 G1 H' G1 := fun {H' G'} w => ⟨w.eh, Ex.refl _, s1.exGH.trans w.eh, fun _ _ z _ => z⟩
      cases r : g ts with
      | ok t =>
        rw [r] at p1
        have p2 : Post (km X) .E W σ H1 G1 (if t.flat then .ok t else .bad) Q := p1
        split at p2
        · rename_i fl
          exact fun v H' G' w iv => p2 v H' G1 (back w) (flat_is fl iv)
        · exact p2.elim
      | ex x q =>
        rw [r] at p1
        cases q with
        | nil =>
          intro cls d H' G' w ix
          obtain ⟨D', h1, h2, h3⟩ := ix
          exact p1 cls d H' G1 (back w) ⟨D', h1, h2, h3⟩
        | cons _ _ => exact p1.elim
      | bad => rw [r] at p1; exact p1.elim
    · exact p1.elim
end
end VS

namespace VS
open PySem PySem.Spec PyProof.Rows L2 Evl

theorem Is.int1 {C : KM} {G : Hp} {i : Int} {v : V} (h : Is C G (.int i) v) : v = .int i := by unfold Is at h; exact h
theorem Md.int1 {C : KM} {H H' G' : Hp} {i : Int} {v : V} (h : Md.Is C .E (.int i) v H H' G') : v = .int i := Is.int1 (C := C) (G := G') h
/-! ### slices -/
abbrev FO := Ev' → Res (Option Int)
def oNone : FO := fun _ => .ok none
def oSome (fa : FE) : FO := fun ρ => (fa ρ).bind fun x => match x with | .int i => .ok (some i) | _ => .bad
def cutT {α : Type} (xs : List α) (lo hi : Option Int) : List α := (xs.drop (HT.sIx xs.length 0 lo)).take (HT.sIx xs.length xs.length hi - HT.sIx xs.length 0 lo)
def gSl (x : T) (lo hi : Option Int) : Option T :=
  match x with
  | .lst l => some (.lst (cutT l lo hi))
  | .tup l => some (.tup (cutT l lo hi))
  | _ => none
def eSl (fa : FE) (fl fh : FO) : FE := fun ρ => (fa ρ).bind fun x => (fl ρ).bind fun lo => (fh ρ).bind fun hi => Res.of (gSl x lo hi)
def PostO (C : KM) (W : WX) (σ : L2.St) (H G : Hp) (r : Res (Option Int)) (Q : Option Int → Hp → Prop) : Prop :=
  match r with
  | .ok o => ∀ H' G', Gr H G H' G' → Q o H'
  | .ex x p => ∀ cls d H' G', Gr H G H' G' → XAt C x p cls d G' → W cls d σ H'
  | .bad => False
def tMO (C : KM) (B : BS) (W : WX) (f : FO) : TO := fun σ H Q => ∃ ρ G, SR C B σ H ρ G ∧ PostO C W σ H G (f ρ) Q
def DO (X : Cx) (B : BS) (W : WX) (e : Option Expr) (f : FO) : Prop := PO X e (tMO (km X) B W f)
theorem PO.imp {X : Cx} {e : Option Expr} {t t' : TO} (h : PO X e t) (i : ∀ σ H Q, t' σ H Q → t σ H Q) : PO X e t' := ⟨fun pins s σ H Q I q => h.run pins s σ H Q I (i σ H Q q)⟩
section
variable {C : KM} {B : BS} {m : Md} {W : WX} {σ : L2.St} {H G : Hp} {ρ : Ev'}
theorem bindO {fo : FO} {k : Option Int → Res T} {Q : VK} {Q1 : Option Int → Hp → Prop} (h : SR C B σ H ρ G) (p : Post C m W σ H G ((fo ρ).bind k) Q)
    (c : ∀ o H1 G1, Gr H G H1 G1 → SR C B σ H1 ρ G1 → Post C m W σ H1 G1 (k o) Q → Q1 o H1) : tMO C B W fo σ H Q1 := by
  refine ⟨ρ, G, h, ?_⟩
  cases e : fo ρ with
  | ok t =>
    rw [e] at p
    exact fun H' G' g => c t H' G' g (h.ext g) (p.mono g)
  | ex x p' =>
    rw [e] at p
    exact p
  | bad =>
    rw [e] at p
    exact p.elim
theorem cut_is {l : List T} {vs : List V} (h : IsL C G l vs) (lo hi : Option Int) : IsL C G (cutT l lo hi) (cutV vs lo hi) := by
  unfold cutT cutV
  rw [h.length]
  exact (h.drop _).take _
theorem cut_all {l : List T} {lo hi : Option Int} (h : HT.sIx l.length 0 lo = 0 ∧ HT.sIx l.length l.length hi = l.length) : cutT l lo hi = l := by
  unfold cutT
  rw [h.1, h.2]
  simp
end
section
variable {X : Cx} {B : BS} {W : WX} {m : Md} {a b e : Expr} {fa fb f : FE} {fl fh : FO} {lo hi : Option Expr} {pos p2 : Pos}
theorem o_none : DO X B W none oNone := PO.imp po_none fun σ H Q ⟨ρ, G, s, p⟩ => p H G (Gr.refl s.exGH)
theorem o_some (ha : DE X B W .E a fa) : DO X B W (some a) (oSome fa) := PO.imp (po_some ha) fun σ H Q ⟨ρ, G, s, p⟩ => by
  refine ⟨ρ, G, s, ?_⟩
  unfold oSome at p
  cases e : fa ρ with
  | ok t =>
    rw [e] at p
    cases t with
    | int i => exact fun v H' G' g iv => ⟨i, Md.int1 iv, p H' G' g⟩
    | _ => exact p.elim
  | ex x q =>
    rw [e] at p
    exact p
  | bad =>
    rw [e] at p
    exact p.elim
/-- a list's or a tuple's slice -/
def rSlX (K : PySem.W.Frag) : V → Option Int → Option Int → Hp → VK → Prop := fun x lo hi H Q => rSlL K x lo hi H Q ∨ rSlA K x lo hi H Q
theorem d_sl (ha : DE X B W .S a fa) (hl : DO X B W lo fl) (hh : DO X B W hi fh) : DE X B W .E (.Subscript a (.Slice lo hi none p2) pos) (eSl fa fl fh) :=
  PE.imp (pe_slice (sl_list.or sl_tupA) ha hl hh) fun σ H Q ⟨ρ, G, s, p⟩ => bindS s p fun x v H1 G1 g1 s1 i1 p1 => bindO s1 p1 fun lo H2 G2 g2 s2 p2 => bindO s2 p2 fun hi H3 G3 g3 s3 p3 => by
    obtain ⟨t, e, q⟩ := p3.of
    have i3 := i1.mono (g2.trans g3)
    cases x with
    | lst l =>
      obtain rfl := Option.some.inj e
      obtain ⟨a, vs, rfl, h1, h2⟩ := i3.lst s3.exGH
      refine .inl ⟨a, vs, rfl, SqL.of h1, fun n hn => ?_⟩
      obtain ⟨w1, w2⟩ := new_lst (C := km X) s3.exGH hn (cut_is h2 lo hi)
      exact q _ _ _ w1 w2
    | tup l =>
      obtain rfl := Option.some.inj e
      obtain ⟨a, vs, rfl, h1, h2⟩ := i3.tup
      refine .inr ⟨a, vs, rfl, ex_t s3.exGH h1, fun w => ?_, fun w n hn => ?_⟩
      · rw [← h2.length] at w
        rw [cut_all w] at q
        exact qE q s3.exGH (Is.tupI h1 h2)
      · obtain ⟨w1, w2⟩ := new_tup (C := km X) s3.exGH hn (cut_is h2 lo hi)
        exact q _ _ _ w1 w2
    | _ => cases e
end

/-! ### statements -/
inductive Out where
  | nx (ρ : Ev') | rt (t : T) | bk (ρ : Ev') | ct (ρ : Ev') | ex (x : Str) (p : List T) (ρ : Ev') | bad
abbrev FS := Ev' → Out
def PostS (C : KM) (B : BS) (W : WX) (D : Ends) (G : Hp) (o : Out) : Prop :=
  match o with
  | .nx ρ => ∀ σ' H' G', SR C B σ' H' ρ G' → Ex G G' → D.nx σ' H'
  | .bk ρ => ∀ σ' H' G', SR C B σ' H' ρ G' → Ex G G' → D.bk σ' H'
  | .ct ρ => ∀ σ' H' G', SR C B σ' H' ρ G' → Ex G G' → D.ct σ' H'
  | .rt t => ∀ v H' G', Gr B.1 B.2 H' G' → B.rm.Is C B.w t v B.1 H' G' → D.rt v H'
  | .ex x p ρ => ∀ cls d σ' H' G', SR C B σ' H' ρ G' → Ex G G' → XAt C x p cls d G' → W cls d σ' H'
  | .bad => False
theorem PostS.mono {C : KM} {B : BS} {W : WX} {D : Ends} {G G1 : Hp} {o : Out} (e : Ex G G1) (h : PostS C B W D G o) : PostS C B W D G1 o := by
  cases o with
  | nx ρ => exact fun σ' H' G' s k => h σ' H' G' s (e.trans k)
  | bk ρ => exact fun σ' H' G' s k => h σ' H' G' s (e.trans k)
  | ct ρ => exact fun σ' H' G' s k => h σ' H' G' s (e.trans k)
  | rt t => exact h
  | ex x p ρ => exact fun cls d σ' H' G' s k => h cls d σ' H' G' s (e.trans k)
  | bad => exact h
def tS (C : KM) (B : BS) (W : WX) (f : FS) : TS := fun D σ H => ∃ ρ G, SR C B σ H ρ G ∧ PostS C B W D G (f ρ)
def DS (X : Cx) (B : BS) (W : WX) (st : Stmt) (f : FS) : Prop := PS X st (tS (km X) B W f)
def DSs (X : Cx) (B : BS) (W : WX) (st : List Stmt) (f : FS) : Prop := PSs X st (tS (km X) B W f)

/-! ### the state and the slots -/
section
variable {C : KM} {B : BS} {σ : L2.St} {H G : Hp} {ρ : Ev'}
theorem set_get {α : Type} {l : List α} {i j : Nat} {x y : α} (h : (l.set i x)[j]? = some y) : (j = i ∧ y = x) ∨ (j ≠ i ∧ l[j]? = some y) := by
  by_cases e : j = i
  · subst e
    by_cases hl : j < l.length
    · rw [List.getElem?_set_self hl] at h
      exact .inl ⟨rfl, (Option.some.inj h).symm⟩
    · rw [List.getElem?_eq_none (by simpa using hl)] at h
      cases h
  · rw [List.getElem?_set_ne (Ne.symm e)] at h
    exact .inr ⟨e, h⟩
theorem Dps.set {i : Nat} {w : Option V} {x : Sl} (s : Dps C B σ H ρ G) (hx : ∀ d, x ≠ .dp d) (how : ∀ t a, x = .ow t → w = some (.ref a) → ∀ (k : Nat) (d : D) (v : V) (F : List Addr), ρ[k]? = some (.dp d) → σ[k]? = some (some v) → Dv C B.w H G d v F → a ∉ F) : Dps C B (σ.set i w) H (ρ.set i x) G := by
  obtain ⟨Fp, h1, h2, h3, h4⟩ := s
  have old : ∀ (k : Nat) (d : D), (ρ.set i x)[k]? = some (.dp d) → k ≠ i ∧ ρ[k]? = some (.dp d) := fun k d e => by
    rcases set_get e with ⟨_, z⟩ | z
    · exact (hx d z.symm).elim
    · exact z
  refine ⟨Fp, fun k d e => ?_, fun j k d e z ne e1 e2 => h2 j k d e z ne (old j d e1).2 (old k e e2).2, fun k j d t a e e' ea => ?_, fun p mp d z => by
    obtain ⟨ne, z⟩ := old p.1 d z
    rw [List.getElem?_set_ne (Ne.symm ne)]
    exact h4 p mp d z⟩
  · obtain ⟨ne, e⟩ := old k d e
    obtain ⟨v, q1, q⟩ := h1 k d e
    exact ⟨v, by rw [List.getElem?_set_ne (Ne.symm ne)]; exact q1, q⟩
  · obtain ⟨ne, ek⟩ := old k d e
    rcases set_get e' with ⟨rfl, z⟩ | ⟨nj, z⟩
    · rcases set_get ea with ⟨_, za⟩ | ⟨zn, _⟩
      · obtain ⟨v, q1, q2, _⟩ := h1 k d ek
        exact how t a z.symm za.symm k d v _ ek q1 q2
      · exact (zn rfl).elim
    · rw [List.getElem?_set_ne (Ne.symm nj)] at ea
      exact h3 k j d t a ek z ea
theorem Dps.write {i : Nat} {a : Addr} {t u : T} {o' : HO} (s : Dps C B σ H ρ G) (e : ρ[i]? = some (.ow t)) (ea : σ[i]? = some (some (.ref a))) : Dps C B σ (upd H a o') (ρ.set i (.ow u)) G := by
  obtain ⟨Fp, h1, h2, h3, h4⟩ := s
  have old : ∀ (k : Nat) (d : D), (ρ.set i (.ow u))[k]? = some (.dp d) → ρ[k]? = some (.dp d) := fun k d z => by
    rcases set_get z with ⟨_, z⟩ | ⟨_, z⟩
    · cases z
    · exact z
  refine ⟨Fp, fun k d z => ?_, fun j k d e z ne e1 e2 => h2 j k d e z ne (old j d e1) (old k e e2), fun k j d t' b z z' zb => ?_, fun p mp d z => h4 p mp d (old p.1 d z)⟩
  · obtain ⟨v, q1, q2, q3, q4⟩ := h1 k d (old k d z)
    exact ⟨v, q1, q2.mono (Ex.refl _) _ _ _ (fun x m o zo => by rw [upd_ne (fun q => h3 k i d t a (old k d z) e ea (by rw [← q]; exact m))]; exact zo), q3, q4⟩
  · rcases set_get z' with ⟨rfl, _⟩ | ⟨_, z'⟩
    · exact h3 k j d t b (old k d z) e zb
    · exact h3 k j d t' b (old k d z) z' zb
theorem Dps.beside {b : Addr} {o : HO} (s : Dps C B σ H ρ G) (hd : ∀ (k : Nat) (d : D) (v : V) (F : List Addr), ρ[k]? = some (.dp d) → σ[k]? = some (some v) → Dv C B.w H G d v F → b ∉ F) : Dps C B σ (upd H b o) ρ G := by
  obtain ⟨Fp, h1, h2, h3, h4⟩ := s
  refine ⟨Fp, fun k d z => ?_, h2, h3, h4⟩
  obtain ⟨v, q1, q2, q3, q4⟩ := h1 k d z
  exact ⟨v, q1, q2.mono (Ex.refl _) _ _ _ (fun x m p zo => by rw [upd_ne (fun q => hd k d v _ z q1 q2 (by rw [← q]; exact m))]; exact zo), q3, q4⟩
theorem Dps.frz {i : Nat} {a : Addr} {t : T} {o : HO} (s : Dps C B σ H ρ G) (e : ρ[i]? = some (.ow t)) (ea : σ[i]? = some (some (.ref a))) (hG : G a = none) : Dps C B σ H (ρ.set i (.sh t)) (upd G a o) := by
  obtain ⟨Fp, h1, h2, h3, h4⟩ := s
  have old : ∀ (k : Nat) (d : D), (ρ.set i (.sh t))[k]? = some (.dp d) → ρ[k]? = some (.dp d) := fun k d z => by
    rcases set_get z with ⟨_, z⟩ | ⟨_, z⟩
    · cases z
    · exact z
  refine ⟨Fp, fun k d z => ?_, fun j k d e z ne e1 e2 => h2 j k d e z ne (old j d e1) (old k e e2), fun k j d t' b z z' zb => ?_, fun p mp d z => h4 p mp d (old p.1 d z)⟩
  · obtain ⟨v, q1, q2, q3, q4⟩ := h1 k d (old k d z)
    exact ⟨v, q1, q2.mono (Ex.new hG) _ _ _ (fun x m o zo => zo), q3, fun x m => ⟨(q4 x m).1, by rw [upd_ne (fun q => h3 k i d t a (old k d z) e ea (by rw [← q]; exact m))]; exact (q4 x m).2⟩⟩
  · rcases set_get z' with ⟨_, z'⟩ | ⟨_, z'⟩
    · cases z'
    · exact h3 k j d t' b (old k d z) z' zb
/-- a place that was free when the state was .. is none of the slots' own -/
theorem SR.dpFree {H' G' : Hp} {b : Addr} (s : SR C B σ H ρ G) (g : Gr H G H' G') (hb : H b = none) : ∀ (k : Nat) (d : D) (v : V) (F : List Addr), ρ[k]? = some (.dp d) → σ[k]? = some (some v) → Dv C B.w H' G' d v F → b ∉ F := fun k d v F e ev h m => by
  obtain ⟨Fp, h1, _, _, _⟩ := s.dp
  obtain ⟨v', q1, q2, _⟩ := h1 k d e
  rw [ev] at q1
  cases q1
  have z := q2.det g.eg _ _ _ _ (fun x _ o z => g.eh x o z) h
  rw [← z] at m
  obtain ⟨o, ho⟩ := q2.there _ _ _ b m
  rw [hb] at ho
  cases ho
/-- a slot is stored: what it holds does not lean on the others -/
theorem SR.set {i : Nat} {w : Option V} {x : Sl} (s : SR C B σ H ρ G) (hsh : ∀ t, x = .sh t → ∃ v, w = some v ∧ Is C G t v)
    (how : ∀ t, x = .ow t → ∃ a o, w = some (.ref a) ∧ B.1 a = none ∧ H a = some o ∧ G a = none ∧ IsO C G t o ∧ ∀ (j : Nat) (u : T), ρ[j]? = some (.ow u) → σ[j]? ≠ some (some (.ref a)))
    (hxn : ∀ y p, x = .xn y p → ∃ a cls d, B.3 = some (a, cls, d) ∧ w = some (.ref a) ∧ XAt C y p cls d G) (hdp : ∀ d, x ≠ .dp d)
    (hod : ∀ t a, x = .ow t → w = some (.ref a) → ∀ (k : Nat) (d : D) (v : V) (F : List Addr), ρ[k]? = some (.dp d) → σ[k]? = some (some v) → Dv C B.w H G d v F → a ∉ F) : SR C B (σ.set i w) H (ρ.set i x) G where
  dp := s.dp.set hdp hod
  gr := s.gr
  sh := fun j t e => by
    rcases set_get e with ⟨rfl, e'⟩ | ⟨ne, e'⟩
    · obtain ⟨v, rfl, h⟩ := hsh t e'.symm
      have hl : j < ρ.length := by
        have := (List.getElem?_eq_some_iff.mp e).1
        simpa using this
      exact ⟨v, List.getElem?_set_self (by rw [← s.len]; exact hl), h⟩
    · obtain ⟨v, h1, h2⟩ := s.sh j t e'
      exact ⟨v, by rw [List.getElem?_set_ne (Ne.symm ne)]; exact h1, h2⟩
  ow := fun j t e => by
    rcases set_get e with ⟨rfl, e'⟩ | ⟨ne, e'⟩
    · obtain ⟨a, o, rfl, h1, h2, h3, h4, _⟩ := how t e'.symm
      have hl : j < ρ.length := by
        have := (List.getElem?_eq_some_iff.mp e).1
        simpa using this
      exact ⟨a, o, List.getElem?_set_self (by rw [← s.len]; exact hl), h1, h2, h3, h4⟩
    · obtain ⟨a, o, h1, h2⟩ := s.ow j t e'
      exact ⟨a, o, by rw [List.getElem?_set_ne (Ne.symm ne)]; exact h1, h2⟩
  ds := fun j k t u a hjk e1 e2 e3 e4 => by
    rcases set_get e1 with ⟨rfl, e1'⟩ | ⟨n1, e1'⟩
    · obtain ⟨a', o, rfl, _, _, _, _, h5⟩ := how t e1'.symm
      rcases set_get e3 with ⟨_, e3'⟩ | ⟨z, _⟩
      · have ea : V.ref a = .ref a' := Option.some.inj e3'
        cases ea
        rcases set_get e2 with ⟨rfl, _⟩ | ⟨n2, e2'⟩
        · exact hjk rfl
        · rw [List.getElem?_set_ne (Ne.symm n2)] at e4
          exact h5 k u e2' e4
      · exact z rfl
    · rw [List.getElem?_set_ne (Ne.symm n1)] at e3
      rcases set_get e2 with ⟨rfl, e2'⟩ | ⟨n2, e2'⟩
      · obtain ⟨a', o, rfl, _, _, _, _, h5⟩ := how u e2'.symm
        rcases set_get e4 with ⟨_, e4'⟩ | ⟨z, _⟩
        · have ea : V.ref a = .ref a' := Option.some.inj e4'
          cases ea
          exact h5 j t e1' e3
        · exact z rfl
      · rw [List.getElem?_set_ne (Ne.symm n2)] at e4
        exact s.ds j k t u a hjk e1' e2' e3 e4
  len := by rw [List.length_set, List.length_set]; exact s.len
  xn := fun j y p e => by
    rcases set_get e with ⟨rfl, e'⟩ | ⟨ne, e'⟩
    · obtain ⟨a, cls, d, h1, rfl, h3⟩ := hxn y p e'.symm
      have hl : j < ρ.length := by
        have := (List.getElem?_eq_some_iff.mp e).1
        simpa using this
      exact ⟨a, cls, d, h1, List.getElem?_set_self (by rw [← s.len]; exact hl), h3⟩
    · obtain ⟨a, cls, d, h1, h2, h3⟩ := s.xn j y p e'
      exact ⟨a, cls, d, h1, by rw [List.getElem?_set_ne (Ne.symm ne)]; exact h2, h3⟩
theorem SR.setSh {i : Nat} {v : V} {t : T} (s : SR C B σ H ρ G) (h : Is C G t v) : SR C B (σ.set i (some v)) H (ρ.set i (.sh t)) G :=
  s.set (fun u e => by cases e; exact ⟨v, rfl, h⟩) (fun u e => by cases e) (fun y p e => by cases e) (fun d e => by cases e) (fun t a e => by cases e)
theorem SR.setUn {i : Nat} (s : SR C B σ H ρ G) : SR C B (σ.set i none) H (ρ.set i .un) G :=
  s.set (fun u e => by cases e) (fun u e => by cases e) (fun y p e => by cases e) (fun d e => by cases e) (fun t a e => by cases e)
/-- one's own object is written -/
theorem SR.write {i : Nat} {a : Addr} {t u : T} {o o' : HO} (s : SR C B σ H ρ G) (e : ρ[i]? = some (.ow t)) (ea : σ[i]? = some (some (.ref a))) (hB : B.1 a = none) (hG : G a = none) (h : IsO C G u o') : SR C B σ (upd H a o') (ρ.set i (.ow u)) G := by
  have hl : i < ρ.length := (List.getElem?_eq_some_iff.mp e).1
  refine ⟨⟨Ex.mut s.gr.eh hB, s.gr.eg, Ex.mut s.gr.gh hG, s.gr.sep⟩, fun j t' e' => ?_, fun j t' e' => ?_, fun j k t' u' b hjk e1 e2 e3 e4 => ?_, by rw [List.length_set]; exact s.len, fun j y p e' => ?_, s.dp.write e ea⟩
  rotate_left 3
  · rcases set_get e' with ⟨_, z⟩ | ⟨_, z⟩
    · cases z
    · exact s.xn j y p z
  · rcases set_get e' with ⟨_, z⟩ | ⟨_, z⟩
    · cases z
    · exact s.sh j t' z
  · rcases set_get e' with ⟨rfl, z⟩ | ⟨ne, z⟩
    · cases z
      exact ⟨a, o', ea, hB, upd_same, hG, h⟩
    · obtain ⟨b, ob, h1, h2, h3, h4, h5⟩ := s.ow j t' z
      have hb : b ≠ a := fun q => by
        subst q
        exact s.ds i j t t' b (Ne.symm ne) e z ea h1
      exact ⟨b, ob, h1, h2, by rw [upd_ne hb]; exact h3, h4, h5⟩
  · have k1 : ∃ t1, ρ[j]? = some (.ow t1) := by
      rcases set_get e1 with ⟨rfl, _⟩ | ⟨_, z⟩
      · exact ⟨t, e⟩
      · exact ⟨t', z⟩
    have k2 : ∃ t1, ρ[k]? = some (.ow t1) := by
      rcases set_get e2 with ⟨rfl, _⟩ | ⟨_, z⟩
      · exact ⟨t, e⟩
      · exact ⟨u', z⟩
    obtain ⟨t1, k1⟩ := k1
    obtain ⟨t2, k2⟩ := k2
    exact s.ds j k t1 t2 b hjk k1 k2 e3 e4
/-- an object beside is written -/
theorem SR.beside {d : Addr} {o : HO} (s : SR C B σ H ρ G) (hB : B.1 d = none) (hG : G d = none) (hd : ∀ (i : Nat) (t : T), ρ[i]? = some (.ow t) → σ[i]? ≠ some (some (.ref d))) (hdp : ∀ (k : Nat) (e : D) (v : V) (F : List Addr), ρ[k]? = some (.dp e) → σ[k]? = some (some v) → Dv C B.w H G e v F → d ∉ F) : SR C B σ (upd H d o) ρ G := by
  refine ⟨⟨Ex.mut s.gr.eh hB, s.gr.eg, Ex.mut s.gr.gh hG, s.gr.sep⟩, s.sh, fun j t e => ?_, s.ds, s.len, s.xn, s.dp.beside hdp⟩
  obtain ⟨b, ob, h1, h2, h3, h4, h5⟩ := s.ow j t e
  have hb : b ≠ d := fun q => by
    subst q
    exact hd j t e h1
  exact ⟨b, ob, h1, h2, by rw [upd_ne hb]; exact h3, h4, h5⟩
/-- one's own object becomes shared -/
def frz (i : Nat) (ρ : Ev') : Ev' := match ρ[i]? with | some (.ow t) => ρ.set i (.sh t) | _ => ρ
theorem SR.frz (i : Nat) (s : SR C B σ H ρ G) : ∃ G', SR C B σ H (frz i ρ) G' ∧ Ex G G' := by
  unfold VS.frz
  split
  · rename_i t e
    obtain ⟨a, o, h1, h2, h3, h4, h5⟩ := s.ow i t e
    have g : Gr B.1 B.2 H (upd G a o) := s.gr.frz h2 h3 h4
    have eg : Ex G (upd G a o) := Ex.new h4
    have hl : i < ρ.length := (List.getElem?_eq_some_iff.mp e).1
    refine ⟨_, ⟨g, fun j t' e' => ?_, fun j t' e' => ?_, fun j k t' u' b hjk e1 e2 e3 e4 => ?_, by rw [List.length_set]; exact s.len, fun j y p e' => ?_, s.dp.frz e h1 h4⟩, eg⟩
    rotate_left 3
    · rcases set_get e' with ⟨_, z⟩ | ⟨_, z⟩
      · cases z
      · obtain ⟨b, cls, d, q1, q2, q3⟩ := s.xn j y p z
        exact ⟨b, cls, d, q1, q2, q3.mono eg⟩
    · rcases set_get e' with ⟨rfl, z⟩ | ⟨_, z⟩
      · cases z
        exact ⟨_, h1, (h5.mono eg).is upd_same⟩
      · obtain ⟨v, q1, q2⟩ := s.sh j t' z
        exact ⟨v, q1, Is.mono eg _ _ q2⟩
    · rcases set_get e' with ⟨rfl, z⟩ | ⟨ne, z⟩
      · cases z
      · obtain ⟨b, ob, q1, q2, q3, q4, q5⟩ := s.ow j t' z
        have hb : b ≠ a := fun q => by
          subst q
          exact s.ds i j t t' b (Ne.symm ne) e z h1 q1
        exact ⟨b, ob, q1, q2, q3, by rw [upd_ne hb]; exact q4, q5.mono eg⟩
    · rcases set_get e1 with ⟨_, z⟩ | ⟨_, z1⟩
      · cases z
      · rcases set_get e2 with ⟨_, z⟩ | ⟨_, z2⟩
        · cases z
        · exact s.ds j k t' u' b hjk z1 z2 e3 e4
  · exact ⟨G, s, Ex.refl _⟩
end

def sNx : FS := fun ρ => .nx ρ
def sSeq (f g : FS) : FS := fun ρ => match f ρ with
  | .nx ρ' => g ρ'
  | .rt t => .rt t
  | .bk r => .bk r
  | .ct r => .ct r
  | .ex x p r => .ex x p r
  | .bad => .bad
def sLift (ρ : Ev') (r : Res T) (k : T → Out) : Out := match r with
  | .ok t => k t
  | .ex x p => .ex x p ρ
  | .bad => .bad
def sFrz (i : Nat) (f : FS) : FS := fun ρ => f (frz i ρ)
def sSet (i : Nat) (fa : FE) : FS := fun ρ => sLift ρ (fa ρ) fun t => .nx (ρ.set i (.sh t))
def sNew (i : Nat) (fa : FE) : FS := fun ρ => sLift ρ (fa ρ) fun t => .nx (ρ.set i (.ow t))
def sRet (fa : FE) : FS := fun ρ => sLift ρ (fa ρ) fun t => .rt t
def sExp (fa : FE) : FS := fun ρ => sLift ρ (fa ρ) fun _ => .nx ρ
def sIf (fc : FE) (f g : FS) : FS := fun ρ => sLift ρ (fc ρ) fun t => match t with | .bl true => f ρ | .bl false => g ρ | _ => .bad
section
variable {C : KM} {B : BS} {m : Md} {W : WX} {σ : L2.St} {H G : Hp} {ρ : Ev'} {D : Ends}
/-- a statement's expression, then what follows -/
theorem bindSt {fa : FE} {k : T → Out} {Q1 : VK} (h : SR C B σ H ρ G) (p : PostS C B W D G (sLift ρ (fa ρ) k)) (c : ∀ t v H1 G1, Gr H G H1 G1 → SR C B σ H1 ρ G1 → m.Is C t v H H1 G1 → PostS C B W D G1 (k t) → Q1 v H1) : tM C B m W fa σ H Q1 := by
  refine ⟨ρ, G, h, ?_⟩
  cases e : fa ρ with
  | ok t =>
    rw [e] at p
    exact fun v H' G' g i => c t v H' G' g (h.ext g) i (PostS.mono g.eg p)
  | ex x p' =>
    rw [e] at p
    exact fun cls d H' G' g i => p cls d σ H' G' (h.ext g) g.eg i
  | bad =>
    rw [e] at p
    exact p.elim
theorem bindStT {fa : FE} {k : T → Out} {Q1 : Bool → Hp → Prop} (h : SR C B σ H ρ G) (p : PostS C B W D G (sLift ρ (fa ρ) k)) (hk : ∀ t, (∀ b, t ≠ .bl b) → k t = .bad) (c : ∀ b H1 G1, Gr H G H1 G1 → SR C B σ H1 ρ G1 → PostS C B W D G1 (k (.bl b)) → Q1 b H1) : tMT C B W fa σ H Q1 := by
  refine ⟨ρ, G, h, ?_⟩
  cases e : fa ρ with
  | ok t =>
    rw [e] at p
    cases t with
    | bl b => exact fun H' G' g => c b H' G' g (h.ext g) (PostS.mono g.eg p)
    | _ =>
      have p' : PostS C B W D G (k _) := p
      rw [hk _ (fun b z => by cases z)] at p'
      exact p'.elim
  | ex x p' =>
    rw [e] at p
    exact fun cls d H' G' g i => p cls d σ H' G' (h.ext g) g.eg i
  | bad =>
    rw [e] at p
    exact p.elim
end
section
variable {X : Cx} {B : BS} {W : WX} {m : Md} {a b c e : Expr} {fa fb fc : FE} {f g : FS} {pos pos' : Pos} {st : Stmt} {rest body body' : List Stmt}
theorem ss_nil : DSs X B W [] sNx := PSs.imp pss_nil fun D σ H ⟨ρ, G, s, p⟩ => p σ H G s (Ex.refl _)
theorem ss_cons (h1 : DS X B W st f) (h2 : DSs X B W rest g) : DSs X B W (st :: rest) (sSeq f g) := PSs.imp (pss_cons h1 h2) fun D σ H ⟨ρ, G, s, p⟩ => by
  refine ⟨ρ, G, s, ?_⟩
  unfold sSeq at p
  cases e : f ρ with
  | nx ρ' =>
    rw [e] at p
    exact fun σ' H' G' s' k => ⟨ρ', G', s', PostS.mono k p⟩
  | _ =>
    rw [e] at p
    exact p
theorem ss_one (h1 : DS X B W st f) : DSs X B W [st] f := pss_one h1
theorem ss_frz (i : Nat) (h : DSs X B W body f) : DSs X B W body (sFrz i f) := PSs.imp h fun D σ H ⟨ρ, G, s, p⟩ => by
  obtain ⟨G', s', e⟩ := s.frz i
  exact ⟨_, G', s', PostS.mono e p⟩
theorem st_frz (i : Nat) (h : DS X B W st f) : DS X B W st (sFrz i f) := PS.imp h fun D σ H ⟨ρ, G, s, p⟩ => by
  obtain ⟨G', s', e⟩ := s.frz i
  exact ⟨_, G', s', PostS.mono e p⟩
theorem st_pass : DS X B W (.Pass pos) sNx := PS.imp ps_pass fun D σ H ⟨ρ, G, s, p⟩ => p σ H G s (Ex.refl _)
def sBk : FS := fun ρ => .bk ρ
def sCt : FS := fun ρ => .ct ρ
theorem st_break : DS X B W (.Break pos) sBk := PS.imp ps_break fun D σ H ⟨ρ, G, s, p⟩ => p σ H G s (Ex.refl _)
theorem st_cont : DS X B W (.Continue pos) sCt := PS.imp ps_continue fun D σ H ⟨ρ, G, s, p⟩ => p σ H G s (Ex.refl _)
theorem st_doc {x : Str} {j : Nat} : DS X B W (.Expr (.Constant (.str x) j pos) pos') sNx := PS.imp ps_doc fun D σ H ⟨ρ, G, s, p⟩ => p σ H G s (Ex.refl _)
/-- name = e -/
theorem st_set {i : Nat} {x : Str} (hN : X.N.Nodup) (hi : X.N[i]? = some x) (hx : Loc X.env.scope x) (he : DE X B W .E e fa) (hs : swapsWith e (some (.Name x pos')) pos.line X.env = pure false := by rfl) (hf : X.fn x = true ∨ X.env.scope.names.lookup x = some .local := by first | exact .inl rfl | exact .inr rfl | assumption) :
    DS X B W (.Assign [.Name x pos'] e pos) (sSet i fa) := PS.imp (ps_set hN hi hx he hs hf) fun D σ H ⟨ρ, G, s, p⟩ => bindSt s p fun t v H1 G1 g s1 i p1 => p1 _ H1 G1 (s1.setSh i) (Ex.refl _)
/-- name = a new object, one's own -/
theorem st_new {i : Nat} {x : Str} (hN : X.N.Nodup) (hi : X.N[i]? = some x) (hx : Loc X.env.scope x) (he : DE X B W .N e fa) (hs : swapsWith e (some (.Name x pos')) pos.line X.env = pure false := by rfl) (hf : X.fn x = true ∨ X.env.scope.names.lookup x = some .local := by first | exact .inl rfl | exact .inr rfl | assumption) :
    DS X B W (.Assign [.Name x pos'] e pos) (sNew i fa) := PS.imp (ps_set hN hi hx he hs hf) fun D σ H ⟨ρ, G, s, p⟩ => bindSt s p fun t v H1 G1 g s1 i p1 => by
  obtain ⟨a, o, rfl, h1, h2, h3, h4⟩ := i
  refine p1 _ H1 G1 (s1.set (fun u e => by cases e) (fun u e => ?_) (fun y p e => by cases e) (fun d e => by cases e) (fun t b _ eb => by cases eb; exact s.dpFree g h1)) (Ex.refl _)
  cases e
  refine ⟨a, o, rfl, fresh_back s.gr.eh h1, h2, h3, h4, fun j w ej ea => ?_⟩
  obtain ⟨b, ob, q1, _, q3, _⟩ := s.ow j w ej
  rw [q1] at ea
  cases ea
  rw [h1] at q3
  cases q3
theorem st_ret (he : DE X B W .E e fa) (hm : B.rm = .E := by rfl) : DS X B W (.Return (some e) pos) (sRet fa) := PS.imp (ps_ret he) fun D σ H ⟨ρ, G, s, p⟩ => bindSt s p fun t v H1 G1 g s1 i p1 => p1 v H1 G1 s1.gr (by rw [hm]; exact i)
/-- a new object is returned -/
theorem st_retNew (he : DE X B W .N e fa) (hm : B.rm = .N := by rfl) : DS X B W (.Return (some e) pos) (sRet fa) := PS.imp (ps_ret he) fun D σ H ⟨ρ, G, s, p⟩ => bindSt s p fun t v H1 G1 g s1 i p1 => p1 v H1 G1 s1.gr (by
  rw [hm]
  obtain ⟨a, o, h1, h2, h3⟩ := i
  exact ⟨a, o, h1, fresh_back s.gr.eh h2, h3⟩)
/-- one's own object is returned -/
def sRetO (i : Nat) : FS := fun ρ => match ρ[i]? with | some (.ow t) => .rt t | _ => .bad
theorem st_retO (i : Nat) {x : Str} {p2 : Pos} (hN : X.N[i]? = some x := by rfl) (hv : Vis X.env.scope x := by first | exact Or.inl rfl | exact Or.inr (Or.inl rfl) | exact Or.inr (Or.inr rfl)) (hd : (x == ("__debug__" : Str)) = false := by decide)
    (hcd : (x == ("__classdict__" : Str)) = false := by decide) (hm : B.rm = .N := by rfl) : DS X B W (.Return (some (.Name x p2)) pos) (sRetO i) := PS.imp (ps_ret (pe_var hN hv hd hcd)) fun D σ H ⟨ρ, G, s, p⟩ => by
  unfold sRetO at p
  split at p
  · rename_i t e
    obtain ⟨a, o, h1, h2, h3, h4, h5⟩ := s.ow i t e
    refine ⟨.ref a, h1, p _ H G s.gr ?_⟩
    rw [hm]
    exact ⟨a, o, rfl, h2, h3, h4, h5⟩
  · exact p.elim
theorem st_retN (hm : B.rm = .E := by rfl) : DS X B W (.Return none pos) (sRet (eC .non)) := PS.imp ps_retN fun D σ H ⟨ρ, G, s, p⟩ => p .non H G s.gr (by rw [hm]; exact (Is.nonI : VS.Is (km X) G .non .non))
theorem st_expr (he : DE X B W .S e fa) (hs : swapsWith e none pos.line X.env = pure false := by rfl) : DS X B W (.Expr e pos) (sExp fa) := PS.imp (ps_expr he hs) fun D σ H ⟨ρ, G, s, p⟩ => bindSt s p fun t v H1 G1 g s1 i p1 => p1 σ H1 G1 s1 (Ex.refl _)
theorem st_if (hc : DT X B W c fc) (ha : DSs X B W body f) (hb : DSs X B W body' g) : DS X B W (.If c body body' pos) (sIf fc f g) := PS.imp (ps_if hc ha hb) fun D σ H ⟨ρ, G, s, p⟩ => bindStT s p (fun t ht => by cases t with | bl b => exact absurd rfl (ht b) | _ => rfl) fun b H1 G1 g s1 p1 => by
  cases b with
  | true => exact iteT ⟨ρ, G1, s1, p1⟩
  | false => exact iteF ⟨ρ, G1, s1, p1⟩
/-- xs.append(e), xs one's own -/
def sApp (i : Nat) (fa : FE) : FS := fun ρ => match ρ[i]? with
  | some (.ow (.lst l)) => sLift ρ (fa ρ) fun t => if l.length < 100000 then .nx (ρ.set i (.ow (.lst (l ++ [t])))) else .bad
  | _ => .bad
theorem st_app (i : Nat) {x : Str} {p1 p2 p3 : Pos} (hN : X.N[i]? = some x) (hv : Vis X.env.scope x) (ha : DE X B W .E a fa)
    (h : PE X (.Call (.Attribute (.Name x p1) "append" p2) [a] [] p3) (tBM X.K "list" rAppend (tVar i) (tCons (tM (km X) B .E W fa) tNil)))
    (hs : swapsWith (.Call (.Attribute (.Name x p1) "append" p2) [a] [] p3) none pos.line X.env = pure false := by rfl) : DS X B W (.Expr (.Call (.Attribute (.Name x p1) "append" p2) [a] [] p3) pos) (sApp i fa) :=
  PS.imp (ps_expr h hs) fun D σ H ⟨ρ, G, s, p⟩ => by
    unfold sApp at p
    split at p
    · rename_i l e
      obtain ⟨ad, o, h1, h2, h3, h4, vs, rfl, h5⟩ := s.ow i _ e
      refine ⟨.ref ad, h1, .inl ⟨rfl, vs, SqL.of h3⟩, bindSt s p fun t v H1 G1 g s1 iv p1 => ?_⟩
      split at p1
      · rename_i hl
        obtain ⟨ad', o', k1, k2, k3, k4, vs', rfl, k5⟩ := s1.ow i _ e
        rw [h1] at k1
        cases k1
        refine ⟨ad, vs', v, rfl, rfl, k3, sz_lt (by rw [← k5.length]; exact hl), p1 σ _ G1 (s1.write (o := .lst vs') e h1 k2 k4 ⟨_, rfl, k5.app (IsL.one iv)⟩) (Ex.refl _)⟩
      · exact p1.elim
    · exact p.elim
/-- xs[i] = e, xs one's own -/
def sPut (i : Nat) (fi fa : FE) : FS := fun ρ => sLift ρ (fa ρ) fun t => match ρ[i]? with
  | some (.ow (.lst l)) => sLift ρ (fi ρ) fun k => match k with
    | .int k => match ixN l.length k with
      | some j => .nx (ρ.set i (.ow (.lst (l.set j t))))
      | none => .bad
    | _ => .bad
  | _ => .bad
theorem st_put (i : Nat) {x : Str} {p1 p2 : Pos} (hN : X.N[i]? = some x) (hv : Vis X.env.scope x) (hd : (x == ("__debug__" : Str)) = false) (hcd : (x == ("__classdict__" : Str)) = false) (ha : DE X B W .E a fa) (hb : DE X B W .E b fb)
    (h : PG X (.Subscript (.Name x p1) b p2) (gSub (tVar i) (tM (km X) B .E W fb) rSetL))
    (hs : swapsWithSole [.Subscript (.Name x p1) b p2] a pos.line X.env = pure false := by rfl) (hw : swappedStores [.Subscript (.Name x p1) b p2] a X.env = pure none := by rfl)
    (h1 : (assignEach [.Subscript (.Name x p1) b p2] X.env).map (·.2) = [assign (.Subscript (.Name x p1) b p2) X.env] := by rfl) : DS X B W (.Assign [.Subscript (.Name x p1) b p2] a pos) (sPut i fb fa) :=
  PS.imp (ps_asg ha h hs hw h1) fun D σ H ⟨ρ, G, s, p⟩ => bindSt s p fun t v H1 G1 g s1 iv p1 => by
    split at p1
    · rename_i l e
      obtain ⟨ad, o, h1, h2, h3, h4, vs, rfl, h5⟩ := s1.ow i _ e
      refine ⟨.ref ad, h1, bindSt s1 p1 fun k w H2 G2 g2 s2 ik p2 => ?_⟩
      cases k with
      | int k =>
        cases q : ixN l.length k with
        | some j =>
          have p3 : PostS (km X) B W D G2 (match ixN l.length k with | some j => Out.nx (ρ.set i (.ow (.lst (l.set j t)))) | none => .bad) := p2
          rw [q] at p3
          obtain ⟨ad', o', k1, k2, k3, k4, vs', rfl, k5⟩ := s2.ow i _ e
          rw [h1] at k1
          cases k1
          refine ⟨ad, vs', k, j, rfl, Md.int1 ik, k3, by rw [← k5.length]; exact q, p3 σ _ G2 (s2.write (o := .lst vs') e h1 k2 k4 ⟨_, rfl, k5.set (Is.mono g2.eg _ _ iv) j⟩) (Ex.refl _)⟩
        | none =>
          have p3 : PostS (km X) B W D G2 (match ixN l.length k with | some j => Out.nx (ρ.set i (.ow (.lst (l.set j t)))) | none => .bad) := p2
          rw [q] at p3
          exact p3.elim
      | _ => exact p2.elim
    · exact p1.elim
/-- x += e, x -= e of ints -/
def sAug (i : Nat) (w : Int → Int → Int) (fa : FE) : FS := fun ρ => match ρ[i]? with
  | some (.sh (.int k)) => sLift ρ (fa ρ) fun t => match t with | .int j => .nx (ρ.set i (.sh (.int (w k j)))) | _ => .bad
  | _ => .bad
theorem st_aug {i : Nat} {x : Str} {op : Operator} {w : Int → Int → Int} (hN : X.N.Nodup) (hi : X.N[i]? = some x) (hx : Loc X.env.scope x) (he : DE X B W .E e fa) (ho : PIp X op (ipI w)) (hf : X.fn x = true ∨ X.env.scope.names.lookup x = some .local := by first | exact .inl rfl | exact .inr rfl | assumption) :
    DS X B W (.AugAssign (.Name x pos') op e pos) (sAug i w fa) := PS.imp (ps_aug hN hi hx he ho hf) fun D σ H ⟨ρ, G, s, p⟩ => by
  unfold sAug at p
  split at p
  · rename_i k e
    obtain ⟨v, h1, h2⟩ := s.sh i _ e
    refine ⟨v, h1, bindSt s p fun t u H1 G1 g s1 iv p1 => ?_⟩
    cases t with
    | int j => exact ⟨k, j, Is.int1 h2, Md.int1 iv, p1 _ H1 G1 (s1.setSh Is.intI) (Ex.refl _)⟩
    | _ => exact p1.elim
  · exact p.elim
end
end VS

namespace VS
open PySem PySem.Spec PyProof.Rows L2 Evl

/-! ### targets -/
inductive Tg where
  | nm (i : Nat) | tp (is : List Nat)
def gNames : List Nat → TGs
  | [] => gNil
  | i :: is => gCons (gName i) (gNames is)
def tG (K : PySem.W.Frag) : Tg → TG
  | .nm i => gName i
  | .tp is => gTup K is.length (gNames is)
def DG (X : Cx) (e : Expr) (t : Tg) : Prop := PG X e (tG X.K t)
def setAll : Ev' → List Nat → List T → Ev'
  | ρ, i :: is, t :: ts => setAll (ρ.set i (.sh t)) is ts
  | ρ, _, _ => ρ
def setT (g : Tg) (t : T) (ρ : Ev') : Option Ev' :=
  match g with
  | .nm i => some (ρ.set i (.sh t))
  | .tp is => match t with
    | .tup l => if l.length = is.length then some (setAll ρ is l) else none
    | _ => none
section
variable {C : KM} {B : BS} {σ : L2.St} {H G : Hp} {ρ : Ev'}
theorem names_of {Q : L2.St → Hp → Prop} : ∀ {is : List Nat} {ts : List T} {vs : List V} {σ : L2.St} {ρ : Ev'}, SR C B σ H ρ G → IsL C G ts vs → ts.length = is.length → (∀ σ', SR C B σ' H (setAll ρ is ts) G → Q σ' H) → gNames is vs σ H Q
  | [], [], _, σ, ρ, s, h, _, q => by
    unfold IsL at h
    subst h
    exact ⟨rfl, q σ s⟩
  | [], _ :: _, _, _, _, _, _, e, _ => by cases e
  | _ :: _, [], _, _, _, _, _, e, _ => by cases e
  | i :: is, t :: ts, _, σ, ρ, s, h, e, q => by
    unfold IsL at h
    obtain ⟨v, r, rfl, h2, h3⟩ := h
    exact ⟨v, r, rfl, names_of (s.setSh h2) h3 (Nat.succ.inj e) q⟩
theorem tg_of {g : Tg} {t : T} {v : V} {ρ' : Ev'} {Q : L2.St → Hp → Prop} (s : SR C B σ H ρ G) (h : Is C G t v) (e : setT g t ρ = some ρ') (q : ∀ σ', SR C B σ' H ρ' G → Q σ' H) : tG C.K g v σ H Q := by
  cases g with
  | nm i =>
    obtain rfl := Option.some.inj e
    exact q _ (s.setSh h)
  | tp is =>
    cases t with
    | tup l =>
      have e' : (if l.length = is.length then some (setAll ρ is l) else none) = some ρ' := e
      split at e'
      · rename_i hl
        obtain rfl := Option.some.inj e'
        unfold Is at h
        obtain ⟨a, vs, rfl, h1, h2⟩ := h
        exact ⟨a, vs, rfl, ex_t s.exGH h1, by rw [← h2.length]; exact hl, names_of s h2 hl q⟩
      · cases e'
    | _ => cases e
end
def sAsg (g : Tg) (fa : FE) : FS := fun ρ => sLift ρ (fa ρ) fun t => match setT g t ρ with | some ρ' => .nx ρ' | none => .bad
theorem st_asg {X : Cx} {B : BS} {W : WX} {tg e : Expr} {fa : FE} {g : Tg} {pos : Pos} (he : DE X B W .E e fa) (hg : DG X tg g) (hs : swapsWithSole [tg] e pos.line X.env = pure false := by rfl) (hw : swappedStores [tg] e X.env = pure none := by rfl)
    (h1 : (assignEach [tg] X.env).map (·.2) = [assign tg X.env] := by rfl) : DS X B W (.Assign [tg] e pos) (sAsg g fa) := PS.imp (ps_asg he hg hs hw h1) fun D σ H ⟨ρ, G, s, p⟩ => bindSt s p fun t v H1 G1 g1 s1 i p1 => by
  cases q : setT g t ρ with
  | some ρ' =>
    rw [q] at p1
    exact tg_of (C := km X) s1 i q fun σ' s' => p1 σ' H1 G1 s' (Ex.refl _)
  | none =>
    rw [q] at p1
    exact p1.elim
/-! ### what is walked -/
structure Wk (C : KM) (J : It) (G0 : Hp) (l : List T) : Prop where
  go : ∀ i H, Ex G0 H → i < l.length → J.go i H
  stop : ∀ H, Ex G0 H → J.stop l.length H
  yld : ∀ i H G x H' t, Ex G0 G → Ex G H → l[i]? = some t → J.yld i H x H' → ∃ G', Gr H G H' G' ∧ Is C G' t x
abbrev FI := Ev' → Res (List T)
def PostI (C : KM) (W : WX) (σ : L2.St) (H G : Hp) (r : Res (List T)) (R : It → Hp → Prop) : Prop :=
  match r with
  | .ok l => ∀ J H' G', Gr H G H' G' → Wk C J G' l → R J H'
  | .ex x p => ∀ cls d H' G', Gr H G H' G' → XAt C x p cls d G' → W cls d σ H'
  | .bad => False
def tI (C : KM) (B : BS) (W : WX) (f : FI) : TI := fun σ H R => ∃ ρ G, SR C B σ H ρ G ∧ PostI C W σ H G (f ρ) R
def DI (X : Cx) (B : BS) (W : WX) (tg e : Expr) (f : FI) : Prop := PI X tg e (tI (km X) B W f)
theorem PI.imp {X : Cx} {tg e : Expr} {t t' : TI} (h : PI X tg e t) (i : ∀ σ H Q, t' σ H Q → t σ H Q) : PI X tg e t' := ⟨fun pins s σ H Q I q => h.run pins s σ H Q I (i σ H Q q)⟩
section
variable {C : KM} {G : Hp}
theorem wk_range (n : Int) : Wk C (Itr 0 n.toNat) G ((List.range n.toNat).map fun i => .int (i : Nat)) where
  go := fun i H _ h => by simpa [Itr] using h
  stop := fun H _ => by
    show n.toNat ≤ _
    rw [List.length_map, List.length_range]
    exact Nat.le_refl _
  yld := fun i H G x H' t _ e ht y => by
    obtain ⟨rfl, rfl⟩ := y
    refine ⟨G, Gr.refl e, ?_⟩
    rw [List.getElem?_map] at ht
    cases q : (List.range n.toNat)[i]? with
    | none => rw [q] at ht; cases ht
    | some j =>
      rw [q] at ht
      obtain rfl := Option.some.inj ht
      have hj : j = i := by
        obtain ⟨h1, h2⟩ := List.getElem?_eq_some_iff.mp q
        simpa using h2.symm
      subst hj
      show Is C G (.int (j : Nat)) (.int (0 + (j : Nat)))
      rw [Int.zero_add]
      exact Is.intI
theorem wk_list {K : PySem.W.Frag} {mg : Str → Option Value} {a : Addr} {l : List T} {vs : List V} (h : G a = some (.lst vs)) (k : IsL ⟨K, mg⟩ G l vs) : Wk ⟨K, mg⟩ (Itl K a) G l where
  go := fun i H e hi => by
    obtain ⟨v, hv⟩ : ∃ v, vs[i]? = some v := ⟨_, List.getElem?_eq_getElem (by rw [← k.length]; exact hi)⟩
    exact ⟨vs, v, SqL.of (e _ _ h), hv⟩
  stop := fun H e => ⟨vs, SqL.of (e _ _ h), by rw [k.length]; exact Nat.le_refl _⟩
  yld := fun i H G1 x H' t e1 e ht y => by
    obtain ⟨rfl, q⟩ := y
    obtain ⟨v, hv, iv⟩ := k.get ht
    have z := (q vs (SqL.of (e _ _ (e1 _ _ h)))).symm.trans hv
    obtain rfl := Option.some.inj z
    exact ⟨G1, Gr.refl e, Is.mono e1 _ _ iv⟩
theorem wk_tup {K : PySem.W.Frag} {mg : Str → Option Value} {a : Addr} {l : List T} {vs : List V} (h : SqT K G a vs) (k : IsL ⟨K, mg⟩ G l vs) : Wk ⟨K, mg⟩ (Itt K a) G l where
  go := fun i H e hi => by
    obtain ⟨v, hv⟩ : ∃ v, vs[i]? = some v := ⟨_, List.getElem?_eq_getElem (by rw [← k.length]; exact hi)⟩
    exact ⟨vs, v, ex_t e h, hv⟩
  stop := fun H e => ⟨vs, ex_t e h, by rw [k.length]; exact Nat.le_refl _⟩
  yld := fun i H G1 x H' t e1 e ht y => by
    obtain ⟨rfl, q⟩ := y
    obtain ⟨v, hv, iv⟩ := k.get ht
    have z := (q vs (ex_t e (ex_t e1 h))).symm.trans hv
    obtain rfl := Option.some.inj z
    exact ⟨G1, Gr.refl e, Is.mono e1 _ _ iv⟩
end
section
variable {X : Cx} {tg : Expr}
/-- over a list or a tuple, by what it is -/
def iSeq (K : PySem.W.Frag) (tl : TE) : TI := fun σ H R => tl σ H fun x H1 => ∃ a, x = .ref a ∧ (((∃ xs, SqL K H1 a xs) ∧ R (Itl K a) H1) ∨ ((∃ xs, SqT K H1 a xs) ∧ R (Itt K a) H1))
theorem pi_seq {l : Expr} {tl : TE} (hl : PE X l tl) : PI X tg l (iSeq X.K tl) := by
  refine ⟨fun pins s σ H R I h => ?_⟩
  refine thn (hl.run pins s σ H _ I h) fun v s1 ⟨x, H1, I1, r1, q1⟩ => ?_
  obtain ⟨a, e, ⟨⟨xs, hq⟩, q⟩ | ⟨⟨xs, hq⟩, q⟩⟩ := q1
  · subst e
    cases r1
    obtain ⟨its, rv, p, hz⟩ := I1.list hq
    refine wpAny_pyIter_list p.isList ?_
    refine ⟨s1.heap.objs.size, [s1.heap.objs.size], _, _, H1, rfl, I1.kept (t' := s1.toks) fun b o e => Heap.get?_push_of_some _ e, turn_list a _, ⟨_, Heap.get?_push_size _ rfl, rfl, rfl⟩, fun b hb => ?_, q⟩
    have e : b = s1.heap.objs.size := by simpa using hb
    subst e
    exact I1.fpOk (Nat.le_refl _) (I1.hok.fresh (Nat.le_refl _))
  · subst e
    cases r1
    obtain ⟨its, rv, p, hz⟩ := I1.tuple hq
    refine wpAny_pyIter_tuple (show s1.heap.IsTuple a its.toArray from p) ?_
    refine ⟨s1.heap.objs.size, [s1.heap.objs.size], _, _, H1, rfl, I1.kept (t' := s1.toks) fun b o e => Heap.get?_push_of_some _ e, turn_tuple a _, ⟨_, Heap.get?_push_size _ rfl, rfl, rfl⟩, fun b hb => ?_, q⟩
    have e : b = s1.heap.objs.size := by simpa using hb
    subst e
    exact I1.fpOk (Nat.le_refl _) (I1.hok.fresh (Nat.le_refl _))
end
def items? : T → Option (List T)
  | .lst l => some l
  | .tup l => some l
  | _ => none
def iIt (fa : FE) : FI := fun ρ => (fa ρ).bind fun x => Res.of (items? x)
def iRg (fa : FE) : FI := fun ρ => (fa ρ).bind fun x => match x with | .int n => if -100000 ≤ n ∧ n ≤ 100000 then .ok ((List.range n.toNat).map fun i => .int (i : Nat)) else .bad | _ => .bad
def iRg2 (fa fb : FE) : FI := fun ρ => (fa ρ).bind fun x => (fb ρ).bind fun y => match x, y with
  | .int a, .int b => if -100000 ≤ a ∧ a ≤ 100000 ∧ -100000 ≤ b ∧ b ≤ 100000 then .ok ((List.range (b - a).toNat).map fun i => .int (a + (i : Nat))) else .bad
  | _, _ => .bad
section
variable {X : Cx} {B : BS} {W : WX} {a b c e tg elt : Expr} {fa fb fc : FE} {f g : FS} {pos p : Pos} {body : List Stmt}
theorem bindI {C : KM} {σ : L2.St} {H G : Hp} {ρ : Ev'} {fa : FE} {k : T → Res (List T)} {R : It → Hp → Prop} {Q1 : VK} (h : SR C B σ H ρ G) (p : PostI C W σ H G ((fa ρ).bind k) R)
    (c : ∀ t v H1 G1, Gr H G H1 G1 → SR C B σ H1 ρ G1 → Is C G1 t v → PostI C W σ H1 G1 (k t) R → Q1 v H1) : tM C B .E W fa σ H Q1 := by
  refine ⟨ρ, G, h, ?_⟩
  cases e : fa ρ with
  | ok t =>
    rw [e] at p
    intro v H' G' g i
    refine c t v H' G' g (h.ext g) i ?_
    have p' : PostI C W σ H G (k t) R := p
    cases q : k t with
    | ok l => rw [q] at p'; exact fun J H2 G2 g2 w => p' J H2 G2 (g.trans g2) w
    | ex x y => rw [q] at p'; exact fun cls d H2 G2 g2 w => p' cls d H2 G2 (g.trans g2) w
    | bad => rw [q] at p'; exact p'
  | ex x p' =>
    rw [e] at p
    exact p
  | bad =>
    rw [e] at p
    exact p.elim
theorem i_seq (ha : DE X B W .E a fa) : DI X B W tg a (iIt fa) := PI.imp (pi_seq ha) fun σ H R ⟨ρ, G, s, p⟩ => bindI s p fun t v H1 G1 g s1 i p1 => by
  cases t with
  | lst l =>
    unfold Is at i
    obtain ⟨a, vs, rfl, h1, h2⟩ := i
    exact ⟨a, rfl, .inl ⟨⟨vs, SqL.of (s1.exGH _ _ h1)⟩, p1 _ H1 G1 (Gr.refl s1.exGH) (wk_list h1 h2)⟩⟩
  | tup l =>
    unfold Is at i
    obtain ⟨a, vs, rfl, h1, h2⟩ := i
    exact ⟨a, rfl, .inr ⟨⟨vs, ex_t s1.exGH h1⟩, p1 _ H1 G1 (Gr.refl s1.exGH) (wk_tup h1 h2)⟩⟩
  | _ => exact p1.elim
theorem i_rg (hg : Gl X "range") (hm : X.mg "range" = none) (ha : DE X B W .E a fa) (hs : starEach [a] X.env = [(false, eval a X.env)] := by rfl) (he : starEach [a] X.env = (false, eval a X.env) :: starEach [] X.env := by rfl) : DI X B W tg (.Call (.Name "range" p) [a] [] pos) (iRg fa) :=
  PI.imp (pi_range1 hg hm (pa_cons ha pa_nil he) hs) fun σ H R ⟨ρ, G, s, p⟩ => bindI (Q1 := fun x H1 => tNil σ H1 fun xs H2 => ∃ j : Int, x :: xs = [.int j] ∧ -(2 ^ 62) ≤ j ∧ j < 2 ^ 62 ∧ R (Itr 0 j.toNat) H2) s p fun t v H1 G1 g s1 i p1 => by
    cases t with
    | int n =>
      have p2 : PostI (km X) W σ H1 G1 (if -100000 ≤ n ∧ n ≤ 100000 then .ok ((List.range n.toNat).map fun i => T.int (i : Nat)) else .bad) R := p1
      split at p2
      · rename_i hn
        have e := Is.int1 i
        subst e
        exact ⟨n, rfl, by omega, by omega, p2 _ H1 G1 (Gr.refl s1.exGH) (wk_range n)⟩
      · exact p2.elim
    | _ => exact p1.elim

/-! ### for -/
def loopF (g : Tg) (body : FS) : List T → Ev' → Out
  | [], ρ => .nx ρ
  | x :: xs, ρ => match setT g x ρ with
    | none => .bad
    | some ρ1 => match body ρ1 with
      | .nx ρ2 => loopF g body xs ρ2
      | .ct ρ2 => loopF g body xs ρ2
      | .bk ρ2 => .nx ρ2
      | .rt t => .rt t
      | .ex x p r => .ex x p r
      | .bad => .bad
def sFor (fi : FI) (g : Tg) (body : FS) : FS := fun ρ => match fi ρ with
  | .ok l => loopF g body l ρ
  | .ex x p => .ex x p ρ
  | .bad => .bad
theorem st_for {fi : FI} {g : Tg} (hp : PassesOwn (model X.prog X.w) X.A X.env X.xe) (hc : X.calm = true) (hi : DI X B W tg e fi) (hg : DG X tg g) (hb : DSs X B W body f) (hs : ∀ x, foldedSetIterable e X.env x = pure x := by intro _; rfl) :
    DS X B W (.For tg e body [] pos) (sFor fi g f) := PS.imp (ps_for hp hc hi hg hb hs) fun D σ H ⟨ρ, G, s, p⟩ => by
  refine ⟨ρ, G, s, ?_⟩
  unfold sFor at p
  cases ei : fi ρ with
  | bad =>
    rw [ei] at p
    exact p
  | ex x q =>
    rw [ei] at p
    exact fun cls d H' G' g i => p cls d σ H' G' (s.ext g) g.eg i
  | ok l =>
    rw [ei] at p
    intro J H0 G0 g0 wk
    refine ⟨fun i m σ' H' => m = l.length - i ∧ i ≤ l.length ∧ ∃ ρ' G', SR (km X) B σ' H' ρ' G' ∧ Ex G0 G' ∧ PostS (km X) B W D G' (loopF g f (l.drop i) ρ'), ⟨_, rfl, Nat.zero_le _, ρ, G0, s.ext g0, Ex.refl _, PostS.mono g0.eg p⟩, ?_⟩
    rintro i m σ' H' ⟨rfl, hi, ρ', G', s', e', p'⟩
    by_cases hlt : i < l.length
    · have hd : l.drop i = l[i] :: l.drop (i + 1) := List.drop_eq_getElem_cons hlt
      rw [hd] at p'
      refine .inr ⟨wk.go i H' (e'.trans s'.exGH) hlt, fun σ2 H2 => i + 1 ≤ l.length ∧ ∃ ρ2 G2, SR (km X) B σ2 H2 ρ2 G2 ∧ Ex G0 G2 ∧ PostS (km X) B W D G2 (loopF g f (l.drop (i + 1)) ρ2), fun σ2 H2 ⟨h1, h2⟩ => ⟨l.length - (i + 1), by omega, rfl, h1, h2⟩, fun x H2 y => ?_⟩
      obtain ⟨G2, g2, ix⟩ := wk.yld i H' G' x H2 l[i] e' s'.exGH (List.getElem?_eq_getElem hlt) y
      have s2 := s'.ext g2
      have p2 := PostS.mono g2.eg p'
      unfold loopF at p2
      cases et : setT g l[i] ρ' with
      | none =>
        rw [et] at p2
        exact p2.elim
      | some ρ1 =>
        rw [et] at p2
        refine tg_of (C := km X) s2 ix et fun σ3 s3 => ⟨ρ1, G2, s3, ?_⟩
        have e2 : Ex G0 G2 := e'.trans g2.eg
        cases eb : f ρ1 with
        | nx ρ4 =>
          simp only [eb] at p2
          exact fun σ4 H4 G4 s4 k4 => ⟨hlt, ρ4, G4, s4, e2.trans k4, PostS.mono k4 p2⟩
        | ct ρ4 =>
          simp only [eb] at p2
          exact fun σ4 H4 G4 s4 k4 => ⟨hlt, ρ4, G4, s4, e2.trans k4, PostS.mono k4 p2⟩
        | bk ρ4 =>
          simp only [eb] at p2
          exact p2
        | rt t =>
          simp only [eb] at p2
          exact p2
        | ex x q r =>
          simp only [eb] at p2
          exact p2
        | bad =>
          simp only [eb] at p2
          exact p2.elim
    · have e : i = l.length := by omega
      subst e
      rw [List.drop_length] at p'
      exact .inl ⟨wk.stop H' (e'.trans s'.exGH), p' σ' H' G' s' (Ex.refl _)⟩

/-! ### while -/
def whF (fc : FE) (body : FS) : Nat → Ev' → Out
  | 0, _ => .bad
  | n + 1, ρ => sLift ρ (fc ρ) fun t => match t with
    | .bl true => (match body ρ with
      | .nx ρ2 => whF fc body n ρ2
      | .ct ρ2 => whF fc body n ρ2
      | .bk ρ2 => .nx ρ2
      | .rt t => .rt t
      | .ex x p r => .ex x p r
      | .bad => .bad)
    | .bl false => .nx ρ
    | _ => .bad
def sWhile (n : Nat) (fc : FE) (body : FS) : FS := whF fc body n
theorem st_while {n : Nat} (hp : PassesOwn (model X.prog X.w) X.A X.env X.xe) (hc : DT X B W c fc) (hb : DSs X B W body f) : DS X B W (.While c body [] pos) (sWhile n fc f) := PS.imp (ps_while hp hc hb) fun D σ H ⟨ρ, G, s, p⟩ => by
  refine ⟨fun m σ' H' => ∃ ρ' G', SR (km X) B σ' H' ρ' G' ∧ PostS (km X) B W D G' (whF fc f m ρ'), ⟨n, ρ, G, s, p⟩, ?_⟩
  rintro m σ' H' ⟨ρ', G', s', p'⟩
  cases m with
  | zero => exact p'.elim
  | succ m =>
    unfold whF at p'
    refine bindStT s' p' (fun t ht => by cases t with | bl b => exact absurd rfl (ht b) | _ => rfl) fun b H1 G1 g s1 p1 => ?_
    cases b with
    | false => exact iteF (p1 σ' H1 G1 s1 (Ex.refl _))
    | true =>
      refine iteT ⟨fun σ2 H2 => ∃ ρ2 G2, SR (km X) B σ2 H2 ρ2 G2 ∧ PostS (km X) B W D G2 (whF fc f m ρ2), fun σ2 H2 h => ⟨m, Nat.lt_succ_self m, h⟩, ρ', G1, s1, ?_⟩
      cases eb : f ρ' with
      | nx ρ4 =>
        simp only [eb] at p1
        exact fun σ4 H4 G4 s4 k4 => ⟨ρ4, G4, s4, PostS.mono k4 p1⟩
      | ct ρ4 =>
        simp only [eb] at p1
        exact fun σ4 H4 G4 s4 k4 => ⟨ρ4, G4, s4, PostS.mono k4 p1⟩
      | bk ρ4 =>
        simp only [eb] at p1
        exact p1
      | rt t =>
        simp only [eb] at p1
        exact p1
      | ex x q r =>
        simp only [eb] at p1
        exact p1
      | bad =>
        simp only [eb] at p1
        exact p1.elim

/-! ### raise -/
def sRaise (x : Str) : FS := fun ρ => .ex x [] ρ
theorem st_raise {D : Addr} {bmB : List Value} {BB newId initId : String} {x m : Str} {j : Nat} {p p2 p3 : Pos} (hc : X.calm = true) (tk : Takes X W) (F : ExcBaseFacts BB newId initId bmB) (q : PySem.W.excIn X.K D bmB newId = true) (gC : X.mg x = some (.ref D)) (kC : PySem.W.keepIn X.K (.ref D) = true)
    (r : Raises X (.ref D)) (hg : Gl X x) (hdb : (x == ("__debug__" : Str)) = false := by decide) : DS X B W (.Raise (some (.Call (.Name x p) [.Constant (.str m) j p2] [] p3)) none pos) (sRaise x) :=
  PS.imp (ps_raise hc tk (pmk_own F q gC kC r hg hdb)) fun D' σ H ⟨ρ, G, s, h⟩ => h (.ref D) none σ H G s (Ex.refl _) ⟨D, gC, rfl, rfl⟩
end
end VS

namespace VS
open PySem PySem.Spec PyProof.Rows L2 Evl

/-! ### list comprehensions -/
abbrev W0 : WX := fun _ _ _ _ => False
theorem tk0 {X : Cx} : Tk X W0 := fun σ pins H s e s' I c => by
  obtain ⟨_, _, _, _, _, _, _, _, _, _, _, _, z⟩ := c
  exact z.elim
def wipeE (ρ : Ev') : List Nat → Ev'
  | [] => ρ
  | v :: vs => (wipeE ρ vs).set v .un
def compF (g : Tg) (fc fe : FE) : List T → Ev' → Res (List T)
  | [], _ => .ok []
  | x :: xs, ρ => match setT g x ρ with
    | none => .bad
    | some ρ1 => match fc ρ1 with
      | .ok (.bl true) => (match fe ρ1 with
        | .ok t => (compF g fc fe xs ρ).bind fun r => .ok (t :: r)
        | _ => .bad)
      | .ok (.bl false) => compF g fc fe xs ρ
      | _ => .bad
def eComp (fi : FI) (g : Tg) (own : List Nat) (fc fe : FE) : FE := fun ρ => (fi ρ).bind fun l => (compF g fc fe l (wipeE ρ own)).bind fun ts => if ts.length ≤ 99999 then .ok (.lst ts) else .bad
def tgs : Tg → List Nat
  | .nm i => [i]
  | .tp is => is
section
variable {C : KM} {B : BS} {σ : L2.St} {H G : Hp} {ρ : Ev'}
theorem SR.wipe (s : SR C B σ H ρ G) : ∀ vs : List Nat, SR C B (L2.wipe σ vs) H (wipeE ρ vs) G
  | [] => s
  | v :: vs => (s.wipe vs).setUn
theorem wipe_get {σ : L2.St} {j : Nat} : ∀ vs : List Nat, (L2.wipe σ vs)[j]? = if j ∈ vs then σ[j]?.map (fun _ => none) else σ[j]?
  | [] => by simp [L2.wipe]
  | v :: vs => by
    unfold L2.wipe
    by_cases e : v = j
    · subst e
      rw [if_pos (List.mem_cons_self)]
      by_cases hl : v < σ.length
      · rw [List.getElem?_set_self (by rw [wipe_length]; exact hl), List.getElem?_eq_getElem hl]
        rfl
      · rw [List.getElem?_eq_none (by rw [List.length_set, wipe_length]; omega), List.getElem?_eq_none (by omega)]
        rfl
    · rw [List.getElem?_set_ne e, wipe_get vs]
      by_cases m : j ∈ vs
      · rw [if_pos m, if_pos (List.mem_cons_of_mem _ m)]
      · rw [if_neg m, if_neg (by simp only [List.mem_cons, not_or]; exact ⟨Ne.symm e, m⟩)]
theorem wipe_same {σ σ' : L2.St} {vs : List Nat} (hl : σ.length = σ'.length) (h : ∀ j : Nat, j ∉ vs → σ'[j]? = σ[j]?) : L2.wipe σ' vs = L2.wipe σ vs := by
  apply List.ext_getElem?
  intro j
  rw [wipe_get, wipe_get]
  by_cases m : j ∈ vs
  · rw [if_pos m, if_pos m]
    by_cases hj : j < σ.length
    · rw [List.getElem?_eq_getElem hj, List.getElem?_eq_getElem (by omega)]
      rfl
    · rw [List.getElem?_eq_none (by omega), List.getElem?_eq_none (by omega)]
  · rw [if_neg m, if_neg m, h j m]
theorem names_keep {Q : L2.St → Hp → Prop} : ∀ {is : List Nat} {vs : List V} {σ : L2.St}, gNames is vs σ H Q → gNames is vs σ H (fun σ2 H2 => (σ2.length = σ.length ∧ ∀ j : Nat, j ∉ is → σ2[j]? = σ[j]?) ∧ Q σ2 H2)
  | [], vs, σ, h => by
    obtain ⟨h1, h2⟩ := h
    exact ⟨h1, ⟨rfl, fun _ _ => rfl⟩, h2⟩
  | i :: is, vs, σ, h => by
    obtain ⟨v, r, rfl, h⟩ := h
    have h' : gNames is r (σ.set i (some v)) H Q := h
    refine ⟨v, r, rfl, ?_⟩
    show gNames is r (σ.set i (some v)) H _
    have k := names_keep h'
    have imp : ∀ {is : List Nat} {vs : List V} {σ : L2.St} {P P' : L2.St → Hp → Prop}, (∀ a b, P a b → P' a b) → gNames is vs σ H P → gNames is vs σ H P' := fun {is} => by
      induction is with
      | nil => intro vs σ P P' im ⟨a, b⟩; exact ⟨a, im _ _ b⟩
      | cons i is ih => intro vs σ P P' im ⟨v, r, e, q⟩; exact ⟨v, r, e, ih (vs := r) (σ := σ.set i (some v)) im q⟩
    refine imp (fun σ2 H2 ⟨⟨a, b⟩, c⟩ => ⟨⟨by rw [a, List.length_set], fun j hj => ?_⟩, c⟩) k
    simp only [List.mem_cons, not_or] at hj
    rw [b j hj.2, List.getElem?_set_ne (Ne.symm hj.1)]
theorem tg_keep {K : PySem.W.Frag} {g : Tg} {v : V} {Q : L2.St → Hp → Prop} (h : tG K g v σ H Q) : tG K g v σ H (fun σ2 H2 => (σ2.length = σ.length ∧ ∀ j : Nat, j ∉ tgs g → σ2[j]? = σ[j]?) ∧ Q σ2 H2) := by
  cases g with
  | nm i =>
    have h' : Q (σ.set i (some v)) H := h
    exact ⟨⟨List.length_set, fun j hj => List.getElem?_set_ne (by simp only [tgs, List.mem_singleton] at hj; exact Ne.symm hj)⟩, h'⟩
  | tp is =>
    obtain ⟨a, xs, e, h1, h2, h3⟩ := h
    exact ⟨a, xs, e, h1, h2, names_keep h3⟩
end
section
variable {X : Cx} {B : BS} {W : WX} {tg iter elt : Expr} {ifs : List Expr} {scope : Scope} {own : List (Str × Nat)} {pos : Pos} {fi : FI} {g : Tg} {fc fe : FE}
/-- a clause's tests -/
def DTs (X : Cx) (B : BS) (W : WX) (ifs : List Expr) (f : FE) : Prop := PTs X ifs (tMT (km X) B W f)
theorem PTs.imp {X : Cx} {e : List Expr} {t t' : TT} (h : PTs X e t) (i : ∀ σ H Q, t' σ H Q → t σ H Q) : PTs X e t' := ⟨fun pins s σ H Q I q => h.run pins s σ H Q I (i σ H Q q)⟩
theorem ts_nil : DTs X B W [] (eC (.bl true)) := PTs.imp pts_nil fun σ H Q ⟨ρ, G, s, p⟩ => p H G (Gr.refl s.exGH)
theorem ts_one {c : Expr} (h : DT X B W c fc) : DTs X B W [c] fc := pts_one h
theorem comp_of {C : KM} {σ : L2.St} {H : Hp} {Q : VK} {vs : List Nat} (hw : ∀ i ∈ tgs g, i ∈ vs) (h : tM C B .N W (eComp fi g vs fc fe) σ H Q) :
    tLc (tI C B W fi) (tG C.K g) (tMT C B W0 fc) (tM C B .E W0 fe) vs σ H Q := by
  obtain ⟨ρ, G, s, p⟩ := h
  refine ⟨ρ, G, s, ?_⟩
  unfold eComp at p
  cases ei : fi ρ with
  | bad =>
    rw [ei] at p
    exact p
  | ex x q =>
    rw [ei] at p
    exact p
  | ok l =>
    rw [ei] at p
    intro J H1 G1 g1 wk D hD
    have s1 := s.ext g1
    have sw := s1.wipe vs
    have hD0 : H D = none := fresh_back g1.eh hD
    have hDB : B.1 D = none := fresh_back s1.gr.eh hD
    have hDG : G1 D = none := ex_none s1.exGH hD
    have p1 : Post C .N W σ H G ((compF g fc fe l (wipeE ρ vs)).bind fun ts => if ts.length ≤ 99999 then .ok (.lst ts) else .bad) Q := p
    cases ec : compF g fc fe l (wipeE ρ vs) with
    | bad =>
      rw [ec] at p1
      exact p1.elim
    | ex x q => -- never
      have no : ∀ l : List T, ∀ x q, compF g fc fe l (wipeE ρ vs) ≠ .ex x q := by
        intro l
        induction l with
        | nil => intro x q z; cases z
        | cons a r ih =>
          intro x q z
          unfold compF at z
          split at z
          · cases z
          · split at z
            · split at z
              · cases er : compF g fc fe r (wipeE ρ vs) with
                | ok w => rw [er] at z; cases z
                | ex x' q' => exact ih x' q' er
                | bad => rw [er] at z; cases z
              · cases z
            · exact ih x q z
            · cases z
      exact (no l x q ec).elim
    | ok ts =>
      rw [ec] at p1
      have p2 : Post C .N W σ H G (if ts.length ≤ 99999 then .ok (.lst ts) else .bad) Q := p1
      split at p2
      · rename_i hlen
        refine ⟨fun i m H' => m = l.length - i ∧ i ≤ l.length ∧ ∃ G' acc tacc rest, SR C B (L2.wipe σ vs) H' (wipeE ρ vs) G' ∧ Gr H1 G1 H' G' ∧ G' D = none ∧ H' D = some (.lst acc) ∧ IsL C G' tacc acc ∧ compF g fc fe (l.drop i) (wipeE ρ vs) = .ok rest ∧ tacc ++ rest = ts,
          ⟨_, rfl, Nat.zero_le _, G1, [], [], ts, ?_, Gr.own s1.exGH hD, hDG, upd_same, IsL.nil, by rw [List.drop_zero]; exact ec, rfl⟩, ?_⟩
        · refine sw.beside hDB hDG (fun i t e ea => ?_) (sw.dpFree (Gr.refl sw.exGH) hD)
          obtain ⟨a, o, q1, _, q3, _⟩ := sw.ow i t e
          rw [q1] at ea
          cases ea
          rw [hD] at q3
          cases q3
        · rintro i m H' ⟨rfl, hi, G', acc, tacc, rest, sr, gr, gD, hA, isA, er, et⟩
          by_cases hlt : i < l.length
          · have hd : l.drop i = l[i] :: l.drop (i + 1) := List.drop_eq_getElem_cons hlt
            rw [hd] at er
            unfold compF at er
            refine .inr ⟨wk.go i H' (gr.eg.trans sr.exGH) hlt, fun H2 => i + 1 ≤ l.length ∧ ∃ G' acc tacc rest, SR C B (L2.wipe σ vs) H2 (wipeE ρ vs) G' ∧ Gr H1 G1 H2 G' ∧ G' D = none ∧ H2 D = some (.lst acc) ∧ IsL C G' tacc acc ∧ compF g fc fe (l.drop (i + 1)) (wipeE ρ vs) = .ok rest ∧ tacc ++ rest = ts,
              fun H2 ⟨h1, h2⟩ => ⟨l.length - (i + 1), by omega, rfl, h1, h2⟩, fun x H2 y => ?_⟩
            obtain ⟨G2, g2, ix⟩ := wk.yld i H' G' x H2 l[i] gr.eg sr.exGH (List.getElem?_eq_getElem hlt) y
            have s2 := sr.ext g2
            have gD2 : G2 D = none := g2.sep _ _ gD hA
            have hA2 := g2.eh _ _ hA
            cases est : setT g l[i] (wipeE ρ vs) with
            | none =>
              simp only [est] at er
              cases er
            | some ρ1 =>
              simp only [est] at er
              have base : tG C.K g x (L2.wipe σ vs) H2 (fun σ3 H3 => H3 = H2 ∧ SR C B σ3 H3 ρ1 G2) := tg_of (C := C) s2 ix est fun σ3 s3 => ⟨rfl, s3⟩
              have imp : ∀ {P P' : L2.St → Hp → Prop}, (∀ a b, P a b → P' a b) → tG C.K g x (L2.wipe σ vs) H2 P → tG C.K g x (L2.wipe σ vs) H2 P' := fun {P P'} im h => by
                cases g with
                | nm i => exact im _ _ h
                | tp is =>
                  obtain ⟨a, xs, e, h1, h2, h3⟩ := h
                  refine ⟨a, xs, e, h1, h2, ?_⟩
                  have imp2 : ∀ {is : List Nat} {ws : List V} {σ : L2.St}, gNames is ws σ H2 P → gNames is ws σ H2 P' := fun {is} => by
                    induction is with
                    | nil => intro ws σ ⟨a, b⟩; exact ⟨a, im _ _ b⟩
                    | cons i is ih => intro ws σ ⟨v, r, e, q⟩; exact ⟨v, r, e, ih (ws := r) (σ := σ.set i (some v)) q⟩
                  exact imp2 h3
              refine imp (fun σ3 H3 ⟨⟨kl, kj⟩, eH, s3⟩ => ?_) (tg_keep base)
              subst eH
              refine ⟨(wipe_same (σ := L2.wipe σ vs) kl.symm fun j hj => kj j fun z => hj (hw j z)).trans (wipe_same (wipe_length σ vs).symm fun j hj => by rw [wipe_get, if_neg hj]), ρ1, G2, s3, ?_⟩
              cases efc : fc ρ1 with
              | ok t =>
                simp only [efc] at er
                cases t with
                | bl b =>
                  intro H4 G4 g4
                  have s4 := s3.ext g4
                  have gD4 : G4 D = none := g4.sep _ _ gD2 hA2
                  have hA4 := g4.eh _ _ hA2
                  have sr4 := sr.ext (g2.trans g4)
                  cases b with
                  | true =>
                    refine iteT ⟨ρ1, G4, s4, ?_⟩
                    cases efe : fe ρ1 with
                    | ok t =>
                      simp only [efe] at er
                      intro v H5 G5 g5 iv
                      cases ec2 : compF g fc fe (l.drop (i + 1)) (wipeE ρ vs) with
                      | ok r2 =>
                        rw [ec2] at er
                        have er' : (Res.ok (t :: r2) : Res (List T)) = .ok rest := er
                        cases er'
                        have gD5 : G5 D = none := g5.sep _ _ gD4 hA4
                        have hA5 := g5.eh _ _ hA4
                        have isA5 : IsL C G5 tacc acc := IsL.mono ((g2.eg.trans g4.eg).trans g5.eg) _ _ isA
                        have sr5 := sr4.ext g5
                        have la : tacc.length + (r2.length + 1) = ts.length := by rw [← et, List.length_append, List.length_cons]
                        refine ⟨acc, hA5, sz_lt (by rw [← isA5.length]; omega), hlt, G5, acc ++ [v], tacc ++ [t], r2, ?_, ?_, gD5, upd_same, isA5.app (IsL.one iv), rfl, by rw [List.append_assoc]; exact et⟩
                        · refine sr5.beside hDB gD5 (fun j u e ea => ?_) (sw.dpFree (((gr.trans g2).trans g4).trans g5) hD)
                          obtain ⟨a, o, q1, _, q3, _⟩ := sw.ow j u e
                          rw [q1] at ea
                          cases ea
                          rw [hD] at q3
                          cases q3
                        · have gg := ((gr.trans g2).trans g4).trans g5
                          exact ⟨Ex.mut gg.eh hD, gg.eg, Ex.mut gg.gh gD5, gg.sep⟩
                      | ex x q => rw [ec2] at er; cases er
                      | bad => rw [ec2] at er; cases er
                    | ex x q => simp only [efe] at er; cases er
                    | bad => simp only [efe] at er; cases er
                  | false =>
                    exact iteF ⟨hlt, G4, acc, tacc, rest, sr4, (gr.trans g2).trans g4, gD4, hA4, IsL.mono (g2.eg.trans g4.eg) _ _ isA, er, et⟩
                | _ => cases er
              | ex x q => simp only [efc] at er; cases er
              | bad => simp only [efc] at er; cases er
          · have e : i = l.length := by omega
            subst e
            rw [List.drop_length] at er
            have er' : (Res.ok [] : Res (List T)) = .ok rest := er
            cases er'
            rw [List.append_nil] at et
            subst et
            refine .inl ⟨wk.stop H' (gr.eg.trans sr.exGH), p2 _ H' G' (g1.trans gr) ⟨D, _, rfl, hD0, hA, gD, acc, rfl, isA⟩⟩
      · exact p2.elim
theorem d_lc (hc : X.calm = true) (hN : X.N.Nodup) (hi : DI X B W tg iter fi) (ok : BlkOk X.N X.env.scope scope own) (hw : ∀ i ∈ tgs g, i ∈ own.map (·.2))
    (hg : ∀ (s : Shared) (H : Hp) (C : Addr) (cl : List (Str × Addr)) (fp : List Addr), DG (X.blk s H scope (compEnvC scope cl C X.env) fp) tg g)
    (ht : ∀ (s : Shared) (H : Hp) (C : Addr) (cl : List (Str × Addr)) (fp : List Addr), DTs (X.blk s H scope (compEnvC scope cl C X.env) fp) B W0 ifs fc)
    (he : ∀ (s : Shared) (H : Hp) (C : Addr) (cl : List (Str × Addr)) (fp : List Addr), DE (X.blk s H scope (compEnvC scope cl C X.env) fp) B W0 .E elt fe) (hs : ∀ x, foldedSetIterable iter X.env x = pure x := by intro _; rfl) :
    DE X B W .N (.ListComp elt [⟨tg, iter, ifs, 0⟩] scope pos) (eComp fi g (own.map (·.2)) fc fe) :=
  PE.imp (pe_lc (g := tG X.K g) (tt := tMT (km X) B W0 fc) (te := tM (km X) B .E W0 fe) hc hN hi ok hg ht he hs) fun σ H Q h => comp_of hw h
/-- name = [..] on one line -/
theorem st_newLc {i : Nat} {y : Str} {py spos : Pos} (hc : X.calm = true) (hN : X.N.Nodup) (hy : X.N[i]? = some y) (hyl : X.env.scope.names.lookup y = some .local)
    (hsw : swapsWith (.ListComp elt [⟨tg, iter, ifs, 0⟩] scope pos) (some (.Name y py)) spos.line X.env = pure true) (hi : DI X B W tg iter fi) (ok : BlkOk X.N X.env.scope scope own) (hw : ∀ i ∈ tgs g, i ∈ own.map (·.2))
    (hg : ∀ (s : Shared) (H : Hp) (C : Addr) (cl : List (Str × Addr)) (fp : List Addr), DG (X.blk s H scope (compEnvC scope cl C X.env) fp) tg g)
    (ht : ∀ (s : Shared) (H : Hp) (C : Addr) (cl : List (Str × Addr)) (fp : List Addr), DTs (X.blk s H scope (compEnvC scope cl C X.env) fp) B W0 ifs fc)
    (he : ∀ (s : Shared) (H : Hp) (C : Addr) (cl : List (Str × Addr)) (fp : List Addr), DE (X.blk s H scope (compEnvC scope cl C X.env) fp) B W0 .E elt fe) (hs : ∀ x, foldedSetIterable iter X.env x = pure x := by intro _; rfl) :
    DS X B W (.Assign [.Name y py] (.ListComp elt [⟨tg, iter, ifs, 0⟩] scope pos) spos) (sNew i (eComp fi g (own.map (·.2)) fc fe)) :=
  PS.imp (ps_setLc (g := tG X.K g) (tt := tMT (km X) B W0 fc) (te := tM (km X) B .E W0 fe) hc hN hy hyl hsw hi ok hg ht he hs) fun D σ H ⟨ρ, G, s, p⟩ => comp_of hw (bindSt s p fun t v H1 G1 g s1 i p1 => by
    obtain ⟨a, o, rfl, h1, h2, h3, h4⟩ := i
    refine p1 _ H1 G1 (s1.set (fun u e => by cases e) (fun u e => ?_) (fun y p e => by cases e) (fun d e => by cases e) (fun t b _ eb => by cases eb; exact s.dpFree g h1)) (Ex.refl _)
    cases e
    refine ⟨a, o, rfl, fresh_back s.gr.eh h1, h2, h3, h4, fun j w ej ea => ?_⟩
    obtain ⟨b, ob, q1, _, q3, _⟩ := s.ow j w ej
    rw [q1] at ea
    cases ea
    rw [h1] at q3
    cases q3)
end
end VS

/-! enumerate over a tuple -/
namespace PySem
open Sem (wp)
theorem vs_enum_new {v : Value} {o : Obj} {H : Heap → Prop} (B : Begins v o H) :
    Meets (Builtin.«enumerate.__new__» ⟨[.type "enumerate", v], []⟩) (fun _ R s => H s.heap ∧
      R (.ok (.ret (.ref (s.heap.push o).objs.size))) { s with heap := (s.heap.push o).push { cls := .type "enumerate", data := .fields #[.none, .bool false, .ref s.heap.objs.size, rawInt 0, .none, .none] } }) :=
  .of_wp fun prog w A R s h => by
    obtain ⟨hp, g, d, tk, os⟩ := s; obtain ⟨h1, h⟩ := h
    have hsub := sub_enumerate
    have q1 : ∀ {A' : Around} {E : Value → Shared → Prop} {Q : Value → Shared → Prop}, Q (.ref hp.objs.size) ⟨hp.push o, g, d, tk, os⟩ → wpAny (model prog w) A' (pyIter v) Q E ⟨hp, g, d, tk, os⟩ :=
      fun q => B.iter prog w _ _ ⟨hp, g, d, tk, os⟩ _ h1 q
    wp_walk using q1
    refine wpAny_stack_any fun st => wpAny_pure ?_
    split
    · rename_i c _ _ _ _ _
      cases (c == Value.type "enumerate")
      · wp_walk using q1
        exact ⟨_, rfl, h⟩
      · wp_walk using q1
        exact ⟨_, rfl, h⟩
    · wp_walk using q1
      exact ⟨_, rfl, h⟩
theorem vs_call_enum {prog : Program} {w : World} {A : Around} {E : Value → Shared → Prop} {s : Shared} {v : Value} {o : Obj} {H : Heap → Prop} {Q : Value → Shared → Prop} (B : Begins v o H) (h1 : H s.heap)
    (h : ∀ h', IsEnum h' (s.heap.objs.size + 1) s.heap.objs.size 0 .none → h'.get? s.heap.objs.size = some o → h'.objs.size = s.heap.objs.size + 2 →
      (∀ b o, s.heap.get? b = some o → h'.get? b = some o) → Q (.ref (s.heap.objs.size + 1)) { s with heap := h' }) :
    wpAny (model prog w) A (call (.type "enumerate") [v]) Q E s := by
  refine callType_new F.called_enumerate (by decide) (F.typeCall_enumerate_1 _) (F.newCall_enumerate_1 _) (fun obj => F.args_object_init_2 obj _) F.entry_enumerate_new (vs_enum_new B) ⟨h1, ?_⟩
  have hz : (s.heap.push o).objs.size = s.heap.objs.size + 1 := Heap.size_push ..
  show _ ∧ _
  rw [hz]
  have he : IsEnum ((s.heap.push o).push { cls := .type "enumerate", data := .fields #[.none, .bool false, .ref s.heap.objs.size, rawInt 0, .none, .none] }) (s.heap.objs.size + 1) s.heap.objs.size 0 .none := by
    have := Heap.get?_push_size (s.heap.push o) (o := { cls := .type "enumerate", data := .fields #[.none, .bool false, .ref s.heap.objs.size, rawInt 0, .none, .none] }) rfl
    rw [hz] at this; exact this
  refine ⟨⟨_, he, rfl⟩, h _ he (Heap.get?_push_of_some _ (Heap.get?_push_size _ B.free)) (by rw [Heap.size_push, hz]) fun b o x => Heap.get?_push_of_some _ (Heap.get?_push_of_some _ x)⟩
end PySem
namespace VS
open PySem PySem.Spec PyProof.Rows L2 Evl
theorem isTuple_of {h : Heap} {a : Addr} {its : Array Value} (p : IsTup h a its) : h.IsTuple a its := p
def IteT (K : PySem.W.Frag) (a : Addr) : It :=
  ⟨fun i H => ∃ (xs : List V) (x : V), SqT K H a xs ∧ xs[i]? = some x, fun i H v H' => ∃ T x, v = .ref T ∧ H T = none ∧ H' = upd H T (.tup [.int (i : Nat), x]) ∧ ∀ xs, SqT K H a xs → xs[i]? = some x, fun i H => ∃ xs : List V, SqT K H a xs ∧ xs.length ≤ i⟩
theorem turn_enumT {P : Program} {w : World} {K : PySem.W.Frag} {elts : List Expr} {kk : Nat} {tpos : Pos} (a e it : Addr) :
    Turn P w K (.Tuple elts kk tpos) (IteT K a) [e, it] e (fun i h => (∃ old, IsEnum h e it ((i : Nat) : Int) old) ∧ h.IsTupleIter it a i ∧ e ≠ it ∧ a ≠ it ∧ e ≠ a) where
  mem := by simp
  obj := fun i h st b hb => by
    obtain ⟨⟨old, he⟩, ⟨o, ho, hc, hd⟩, _⟩ := st
    have e' : b = e ∨ b = it := by simpa using hb
    rcases e' with z | z
    · rw [z]; exact ⟨_, he, fun v q => nomatch q⟩
    · rw [z]; exact ⟨o, ho, fun v q => by rw [hd] at q; cases q⟩
  keep := fun i h h' st k => let ⟨⟨old, he⟩, hi, hne⟩ := st; ⟨⟨old, k e (by simp) _ he⟩, hi.at fun o q => k it (by simp) o q, hne⟩
  item := by
    intro X hP hw hK hc i pins s σ H E I hf st hg
    subst hP hw hK
    obtain ⟨⟨old, he⟩, hit, hne, hai, hea⟩ := st
    obtain ⟨xs, x, hq, hx⟩ := hg
    obtain ⟨its, rv, p, hz⟩ := I.tuple hq
    obtain ⟨u, hu, ru⟩ := rv.get hx
    have hel : e < s.heap.objs.size := Heap.lt_size he
    have hil : it < s.heap.objs.size := by obtain ⟨_, q, _⟩ := hit; exact Heap.lt_size q
    have hlt : i < its.toArray.size := by
      have := (List.getElem?_eq_some_iff.mp hu).1
      simpa using this
    refine wpAny_pyNext_enum_itemD (P := fun i v => its.toArray[i]? = some v) (Draws.tuple (A := X.A.in1) (I.ok.hd hc) it a hai its.toArray) he ⟨hit, isTuple_of p⟩ hlt hne (by simp; exact ⟨hne, hea⟩) fun u' h' tk hPu ho hst' hT hsz hk => ?_
    have hit' := hst'.1
    have euu : u' = u := by
      have q1 : its[i]? = some u' := by simpa using hPu
      rw [hu] at q1
      exact (Option.some.inj q1).symm
    subst euu
    refine ⟨_, rfl, wpAny_letOwnedTupleGo_enum (s := { s with heap := h', toks := tk + 1 }) ho fun h'' he' sb => ?_⟩
    have hT2 : h''.get? s.heap.objs.size = some { cls := .type "tuple", data := .seq #[.int i tk, u'] } := (sb.2 _ (Nat.ne_of_gt hel)).trans hT
    have new : ObjOk X.prog X.w (upd H s.heap.objs.size (.tup [.int (i : Nat), x])) h'' s.heap.objs.size (.tup [.int (i : Nat), x]) :=
      ⟨by show 2 ≤ sizeLine; decide, [.int i tk, u'], .cons ⟨_, rfl⟩ (.cons ru .nil), ⟨_, hT2, rfl, _, rfl⟩⟩
    have I1 : Inv X pins σ (upd H s.heap.objs.size (.tup [.int (i : Nat), x])) { s with heap := h'', toks := tk + 1 } :=
      I.turnedNew (ch := [e, it]) (fun b ob hb q => (sb.2 b (fun z => hb (by simp [z]))).trans (hk b ob (fun z => hb (by simp [z])) (fun z => hb (by simp [z])) q)) hf (Nat.le_refl _) new
    refine ⟨.ref s.heap.objs.size, _, I1, rfl, ⟨_, x, rfl, I.hok.fresh (Nat.le_refl _), rfl, fun ys hy => by rw [I.tuple_inj hy hq]; exact hx⟩, ⟨⟨u', ?_⟩, hit'.at fun o q => (sb.2 it (Ne.symm hne)).trans q, hne, hai, hea⟩, fun b hb => ?_⟩
    · have e1 : ((i + 1 : Nat) : Int) = (i : Int) + 1 := by omega
      rw [e1]; exact he'
    · have hb' : b < s.heap.objs.size := by
        have e' : b = e ∨ b = it := by simpa using hb
        rcases e' with z | z
        · rw [z]; exact hel
        · rw [z]; exact hil
      rw [upd_ne (Nat.ne_of_lt hb')]
      exact (hf b hb).1
  done := by
    intro X hP hw hK hc i pins s σ H E I hf st hg
    subst hP hw hK
    obtain ⟨⟨old, he⟩, hit, hne, hai, hea⟩ := st
    obtain ⟨xs, hq, hx⟩ := hg
    obtain ⟨its, rv, p, hz⟩ := I.tuple hq
    obtain ⟨f0, f1, f2, f3, f4, f5⟩ := hf it (by simp)
    have hl := rv.length
    unfold pyNext
    have hT : s.TypeIs (.ref e) "enumerate" := ⟨_, he, rfl⟩
    refine wpAny_bind (wpAny_attempt (wpAny_callSpecial?_slot (name := Str.ofString "__next__") hT F.slot_enumerate_next
      (wpAny_call_entry F.slot_enumerate_next hT F.entry_enumerate_next ?_ (F.args_enumerate_next_1 _))))
    show wpAny _ _ (field (.ref e) 2 >>= _) _ _ _
    refine wpAny_bind (wpAny_field he rfl (x := .ref it) rfl ?_)
    refine wpAny_bind (wpAny_nextOf_tuple_end (I.ok.hd hc) hit (isTuple_of p) (by simp; omega) fun h' x he' hx' => ?_)
    obtain ⟨o, ho, hc'⟩ := hx'
    refine wpAny_bind (wpAny_isInstance (T := "StopIteration") (b := true) ⟨o, ho, hc'⟩ isSubtype_stop ?_)
    exact wpAny_pure ⟨rfl, I.turned (t' := s.toks) (fun b o hb q => he' b o hb q) f0 f1 f3 f4 f5⟩
  self := fun A i s Q E st h => let ⟨⟨_, he⟩, _⟩ := st; wpAny_pyIter_enum he h
/-- enumerate over a list or a tuple, by what it is -/
def iEnX (K : PySem.W.Frag) (ta : TA) : TI := fun σ H R => ta σ H fun vs H1 => ∃ a, vs = [.ref a] ∧ (((∃ xs, SqL K H1 a xs) ∧ R (Ite K a) H1) ∨ ((∃ xs, SqT K H1 a xs) ∧ R (IteT K a) H1))
theorem pi_enX {X : Cx} {e : Expr} {ta : TA} {p pos tpos : Pos} {elts : List Expr} {kk : Nat} (hg : Gl X "enumerate") (hm : X.mg "enumerate" = none) (ha : PA X [e] ta) (hs : starEach [e] X.env = [(false, eval e X.env)] := by rfl) :
    PI X (.Tuple elts kk tpos) (.Call (.Name "enumerate" p) [e] [] pos) (iEnX X.K ta) := by
  refine ⟨fun pins s σ H R I h => ?_⟩
  refine Call_ (ld_blt I hg hm boot_enumerate (PyProof.Rows.callWith_type1 (thn (ha.run pos pins s σ H _ I h) fun us s1 ⟨vs, H1, I1, r1, q1⟩ => ?_) hs rfl))
  obtain ⟨a, ex, q1⟩ := q1
  subst ex
  cases r1 with
  | cons r rr =>
    cases rr
    cases r
    have fp : ∀ b ∈ [s1.heap.objs.size + 1, s1.heap.objs.size], FpOk X pins H1 b := fun b hb => by
      have e' : b = s1.heap.objs.size + 1 ∨ b = s1.heap.objs.size := by simpa using hb
      have hle : s1.heap.objs.size ≤ b := by
        rcases e' with z | z
        · rw [z]; exact Nat.le_add_right _ _
        · rw [z]; exact Nat.le_refl _
      exact I1.fpOk hle (I1.hok.fresh hle)
    rcases q1 with ⟨⟨xs, hq⟩, q⟩ | ⟨⟨xs, hq⟩, q⟩
    · obtain ⟨its, rv, p', hz⟩ := I1.list hq
      refine call_enumerate_list p'.isList fun h' he hit hsz hk => wpAny_pyIter_enum he ?_
      have I2 : Inv X pins σ H1 { s1 with heap := h' } := I1.kept (t' := s1.toks) hk
      exact ⟨s1.heap.objs.size + 1, [s1.heap.objs.size + 1, s1.heap.objs.size], _, _, H1, rfl, I2, turn_enum a (s1.heap.objs.size + 1) s1.heap.objs.size, ⟨⟨.none, he⟩, hit, Nat.succ_ne_self _⟩, fp, q⟩
    · obtain ⟨its, rv, p', hz⟩ := I1.tuple hq
      have hal : a < s1.heap.objs.size := p'.lt
      refine vs_call_enum (begins_tuple a its.toArray) (isTuple_of p') fun h' he hit hsz hk => wpAny_pyIter_enum he ?_
      have I2 : Inv X pins σ H1 { s1 with heap := h' } := I1.kept (t' := s1.toks) hk
      exact ⟨s1.heap.objs.size + 1, [s1.heap.objs.size + 1, s1.heap.objs.size], _, _, H1, rfl, I2, turn_enumT a (s1.heap.objs.size + 1) s1.heap.objs.size, ⟨⟨.none, he⟩, ⟨_, hit, rfl, rfl⟩, Nat.succ_ne_self _, Nat.ne_of_lt hal, Nat.ne_of_gt (Nat.lt_succ_of_lt hal)⟩, fp, q⟩
def enumL : Nat → List T → List T
  | _, [] => []
  | i, t :: ts => .tup [.int (i : Nat), t] :: enumL (i + 1) ts
theorem enumL_get : ∀ {ts : List T} {k i : Nat} {t : T}, (enumL k ts)[i]? = some t → ∃ u, ts[i]? = some u ∧ t = .tup [.int ((k + i : Nat) : Int), u]
  | [], _, _, _, h => by simp [enumL] at h
  | u :: ts, k, 0, t, h => by
    have e : T.tup [.int (k : Nat), u] = t := Option.some.inj h
    exact ⟨u, rfl, e.symm⟩
  | u :: ts, k, i + 1, t, h => by
    obtain ⟨w, h1, h2⟩ := enumL_get (ts := ts) (k := k + 1) (i := i) (t := t) h
    exact ⟨w, h1, by rw [h2, show k + 1 + i = k + (i + 1) by omega]⟩
theorem enumL_len : ∀ {ts : List T} {k : Nat}, (enumL k ts).length = ts.length
  | [], _ => rfl
  | _ :: ts, k => by
    show (enumL (k + 1) ts).length + 1 = ts.length + 1
    rw [enumL_len]
theorem pair_new {C : KM} {H G : Hp} {T0 : Addr} {i : Nat} {u : T} {v : V} (e : Ex G H) (hT : H T0 = none) (iu : Is C G u v) : ∃ G', Gr H G (upd H T0 (.tup [.int (i : Nat), v])) G' ∧ Is C G' (.tup [.int (i : Nat), u]) (.ref T0) := by
  obtain ⟨a, b⟩ := new_tup (C := C) e hT (IsL.cons (t := .int (i : Nat)) Is.intI (IsL.one iu))
  exact ⟨_, a, b⟩
theorem wk_en {K : PySem.W.Frag} {mg : Str → Option Value} {G : Hp} {a : Addr} {l : List T} {vs : List V} (h : G a = some (.lst vs)) (k : IsL ⟨K, mg⟩ G l vs) : Wk ⟨K, mg⟩ (Ite K a) G (enumL 0 l) where
  go := fun i H e hi => by
    rw [enumL_len] at hi
    obtain ⟨v, hv⟩ : ∃ v, vs[i]? = some v := ⟨_, List.getElem?_eq_getElem (by rw [← k.length]; exact hi)⟩
    exact ⟨vs, v, SqL.of (e _ _ h), hv⟩
  stop := fun H e => ⟨vs, SqL.of (e _ _ h), by rw [enumL_len, k.length]; exact Nat.le_refl _⟩
  yld := fun i H G1 x H' t e1 e ht y => by
    obtain ⟨T0, v, rfl, hT, rfl, q⟩ := y
    obtain ⟨u, hu, rfl⟩ := enumL_get ht
    obtain ⟨w, hw, iw⟩ := k.get hu
    have z := (q vs (SqL.of (e _ _ (e1 _ _ h)))).symm.trans hw
    obtain rfl := Option.some.inj z
    rw [Nat.zero_add]
    exact pair_new e hT (Is.mono e1 _ _ iw)
theorem wk_enT {K : PySem.W.Frag} {mg : Str → Option Value} {G : Hp} {a : Addr} {l : List T} {vs : List V} (h : SqT K G a vs) (k : IsL ⟨K, mg⟩ G l vs) : Wk ⟨K, mg⟩ (IteT K a) G (enumL 0 l) where
  go := fun i H e hi => by
    rw [enumL_len] at hi
    obtain ⟨v, hv⟩ : ∃ v, vs[i]? = some v := ⟨_, List.getElem?_eq_getElem (by rw [← k.length]; exact hi)⟩
    exact ⟨vs, v, ex_t e h, hv⟩
  stop := fun H e => ⟨vs, ex_t e h, by rw [enumL_len, k.length]; exact Nat.le_refl _⟩
  yld := fun i H G1 x H' t e1 e ht y => by
    obtain ⟨T0, v, rfl, hT, rfl, q⟩ := y
    obtain ⟨u, hu, rfl⟩ := enumL_get ht
    obtain ⟨w, hw, iw⟩ := k.get hu
    have z := (q vs (ex_t e (ex_t e1 h))).symm.trans hw
    obtain rfl := Option.some.inj z
    rw [Nat.zero_add]
    exact pair_new e hT (Is.mono e1 _ _ iw)
def iEn (fa : FE) : FI := fun ρ => (fa ρ).bind fun x => match items? x with | some l => .ok (enumL 0 l) | none => .bad
theorem i_en {X : Cx} {B : BS} {W : WX} {e : Expr} {fa : FE} {p pos tpos : Pos} {elts : List Expr} {kk : Nat} (hg : Gl X "enumerate") (hm : X.mg "enumerate" = none) (ha : DE X B W .E e fa) (hs : starEach [e] X.env = [(false, eval e X.env)] := by rfl)
    (he : starEach [e] X.env = (false, eval e X.env) :: starEach [] X.env := by rfl) : DI X B W (.Tuple elts kk tpos) (.Call (.Name "enumerate" p) [e] [] pos) (iEn fa) :=
  PI.imp (pi_enX hg hm (pa_cons ha pa_nil he) hs) fun σ H R ⟨ρ, G, s, p⟩ => bindI (Q1 := fun x H1 => tNil σ H1 fun xs H2 => ∃ a, x :: xs = [.ref a] ∧ (((∃ xs, SqL X.K H2 a xs) ∧ R (Ite X.K a) H2) ∨ ((∃ xs, SqT X.K H2 a xs) ∧ R (IteT X.K a) H2))) s p fun t v H1 G1 g s1 i p1 => by
    cases t with
    | lst l =>
      unfold Is at i
      obtain ⟨a, vs, rfl, h1, h2⟩ := i
      exact ⟨a, rfl, .inl ⟨⟨vs, SqL.of (s1.exGH _ _ h1)⟩, p1 _ H1 G1 (Gr.refl s1.exGH) (wk_en h1 h2)⟩⟩
    | tup l =>
      unfold Is at i
      obtain ⟨a, vs, rfl, h1, h2⟩ := i
      exact ⟨a, rfl, .inr ⟨⟨vs, ex_t s1.exGH h1⟩, p1 _ H1 G1 (Gr.refl s1.exGH) (wk_enT h1 h2)⟩⟩
    | _ => exact p1.elim
end VS

namespace VS
open PySem PySem.Spec PyProof.Rows L2 Evl

/-! ### a def, by its body -/
def fDef (m : Nat) (f : FS) : Mir := fun ts => match f (ts.map Sl.sh ++ List.replicate (m - ts.length) Sl.un) with
  | .rt t => .ok t
  | .nx _ => .ok .non
  | .ex x p _ => .ex x p
  | _ => .bad
theorem start_no {ts : List T} {n : Nat} (i : Nat) (d : D) : (ts.map Sl.sh ++ List.replicate n Sl.un)[i]? ≠ some (.dp d) := fun q => by
  by_cases hi : i < ts.length
  · rw [List.getElem?_append_left (by simpa using hi), List.getElem?_map] at q
    cases e : ts[i]? with
    | none => rw [e] at q; cases q
    | some u => rw [e] at q; cases q
  · rw [List.getElem?_append_right (by simpa using hi), List.getElem?_replicate] at q
    split at q <;> cases q
theorem start_sr {C : KM} {rm : Rm} {w : World} {H G : Hp} {N : List Str} {ts : List T} {vs : List V} (e : Ex G H) (h : IsL C G ts vs) : SR C ⟨H, G, none, rm, w, []⟩ (L2.start N vs) H (ts.map Sl.sh ++ List.replicate (N.length - ts.length) Sl.un) G where
  gr := Gr.refl e
  dp := Dps.no start_no
  sh := fun i t q => by
    by_cases hi : i < ts.length
    · rw [List.getElem?_append_left (by simpa using hi), List.getElem?_map] at q
      cases e : ts[i]? with
      | none => rw [e] at q; cases q
      | some u =>
        rw [e] at q
        cases q
        obtain ⟨v, h1, h2⟩ := h.get e
        refine ⟨v, ?_, h2⟩
        unfold L2.start
        rw [List.getElem?_append_left (by rw [List.length_map, ← h.length]; exact hi), List.getElem?_map, h1]
        rfl
    · rw [List.getElem?_append_right (by simpa using hi), List.getElem?_replicate] at q
      split at q <;> cases q
  ow := fun i t q => by
    by_cases hi : i < ts.length
    · rw [List.getElem?_append_left (by simpa using hi), List.getElem?_map] at q
      cases e : ts[i]? with
      | none => rw [e] at q; cases q
      | some u => rw [e] at q; cases q
    · rw [List.getElem?_append_right (by simpa using hi), List.getElem?_replicate] at q
      split at q <;> cases q
  ds := fun i j t u a _ q _ _ _ => by
    by_cases hi : i < ts.length
    · rw [List.getElem?_append_left (by simpa using hi), List.getElem?_map] at q
      cases e : ts[i]? with
      | none => rw [e] at q; cases q
      | some u => rw [e] at q; cases q
    · rw [List.getElem?_append_right (by simpa using hi), List.getElem?_replicate] at q
      split at q <;> cases q
  len := by
    unfold L2.start
    rw [List.length_append, List.length_append, List.length_map, List.length_map, List.length_replicate, List.length_replicate, h.length]
  xn := fun i x p q => by
    by_cases hi : i < ts.length
    · rw [List.getElem?_append_left (by simpa using hi), List.getElem?_map] at q
      cases e : ts[i]? with
      | none => rw [e] at q; cases q
      | some u => rw [e] at q; cases q
    · rw [List.getElem?_append_right (by simpa using hi), List.getElem?_replicate] at q
      split at q <;> cases q
theorem def_ok {P : Program} {w : World} {K : PySem.W.Frag} {mg : Str → Option Value} {base : Heap} {x qual : Str} {st : Stmt} {f : Addr} {fd : FuncData} {N ps : List Str} {k n : Nat} {fs : FS} (F : Fun K x qual st f fd) (S : FnScope N ps (defScope st)) (hn : n = ps.length)
    (hbody : ∀ (cdv : Value) (A : Around) (outer : List Env) (s : Shared) (H G : Hp) (E : XK), Room k (A.deeper (envOfC qual (defScope st) s.heap.objs.size f cdv)) →
      DSs (cxOf (L2.CX P w) P w K mg base N qual (defScope st) f cdv A outer s H E) ⟨H, G, none, .E, w, []⟩ (fun cls d _ H' => E cls d H') (defBody st) fs) :
    FnOk P w K mg base (L2.CX P w) (k + 1) f fd ps (spD ⟨K, mg⟩ n (fDef N.length fs)) := by
  refine F.okX S (fun vs H Q E h => (spD_len h).trans hn) (fun cdv A outer s H vs Q E hr h => ?_)
  obtain ⟨ts, G, ex, is, hl, p⟩ := h
  refine ⟨_, hbody cdv A outer s H G E hr, _, G, start_sr ex is, ?_⟩
  unfold fDef at p
  cases q : fs (ts.map Sl.sh ++ List.replicate (N.length - ts.length) Sl.un) with
  | nx ρ => rw [q] at p; exact fun σ' H' G' s' _ => p .non H' G' s'.gr Is.nonI
  | rt t => rw [q] at p; exact p
  | bk ρ => rw [q] at p; exact p.elim
  | ct ρ => rw [q] at p; exact p.elim
  | ex x y ρ => rw [q] at p; exact fun cls d σ' H' G' s' _ i => p cls d H' G' s'.gr i
  | bad => rw [q] at p; exact p

/-- a def that answers with a new object, one's own -/
def fDefN (m : Nat) (f : FS) : Mir := fun ts => match f (ts.map Sl.sh ++ List.replicate (m - ts.length) Sl.un) with
  | .rt t => .ok t
  | .ex x p _ => .ex x p
  | _ => .bad
def PostFN (C : KM) (H G : Hp) (r : Res T) (Q : VK) (E : XK) : Prop :=
  match r with
  | .ok t => ∀ v H' G', Gr H G H' G' → Md.Is C .N t v H H' G' → Q v H'
  | .ex x p => ∀ cls d H' G', Gr H G H' G' → XAt C x p cls d G' → E cls d H'
  | .bad => False
def spDN (C : KM) (n : Nat) (f : Mir) : Sp := fun vs H Q E => ∃ ts G, Ex G H ∧ IsL C G ts vs ∧ ts.length = n ∧ PostFN C H G (f ts) Q E
theorem def_okN {P : Program} {w : World} {K : PySem.W.Frag} {mg : Str → Option Value} {base : Heap} {x qual : Str} {st : Stmt} {f : Addr} {fd : FuncData} {N ps : List Str} {k n : Nat} {fs : FS} (F : Fun K x qual st f fd) (S : FnScope N ps (defScope st)) (hn : n = ps.length)
    (hbody : ∀ (cdv : Value) (A : Around) (outer : List Env) (s : Shared) (H G : Hp) (E : XK), Room k (A.deeper (envOfC qual (defScope st) s.heap.objs.size f cdv)) →
      DSs (cxOf (L2.CX P w) P w K mg base N qual (defScope st) f cdv A outer s H E) ⟨H, G, none, .N, w, []⟩ (fun cls d _ H' => E cls d H') (defBody st) fs) :
    FnOk P w K mg base (L2.CX P w) (k + 1) f fd ps (spDN ⟨K, mg⟩ n (fDefN N.length fs)) := by
  refine F.okX S (fun vs H Q E ⟨ts, G, _, h1, h2, _⟩ => by rw [← h1.length]; exact h2.trans hn) (fun cdv A outer s H vs Q E hr h => ?_)
  obtain ⟨ts, G, ex, is, hl, p⟩ := h
  refine ⟨_, hbody cdv A outer s H G E hr, _, G, start_sr ex is, ?_⟩
  unfold fDefN at p
  cases q : fs (ts.map Sl.sh ++ List.replicate (N.length - ts.length) Sl.un) with
  | nx ρ => rw [q] at p; exact p.elim
  | rt t => rw [q] at p; exact p
  | bk ρ => rw [q] at p; exact p.elim
  | ct ρ => rw [q] at p; exact p.elim
  | ex x y ρ => rw [q] at p; exact fun cls d σ' H' G' s' _ i => p cls d H' G' s'.gr i
  | bad => rw [q] at p; exact p

/-! ### a dict display with written text keys -/
def evs : List (Str × FE) → Ev' → Res (List T)
  | [], _ => .ok []
  | (_, f) :: r, ρ => (f ρ).bind fun t => (evs r ρ).bind fun ts => .ok (t :: ts)
def eDisp (l : List (Str × FE)) : FE := fun ρ => (evs l ρ).bind fun ts => if (l.map (·.1)).Nodup ∧ l.length ≤ 15 then .ok (.dic (l.map fun p => .str p.1) ts) else .bad
def DP (X : Cx) (B : BS) (W : WX) (pos : Pos) (keys : List (Option Expr)) (values : List Expr) (l : List (Str × FE)) : Prop := PPs X pos keys values (l.map fun p => (tC (.str p.1), tM (km X) B .E W p.2))
theorem pairs_of {C : KM} {B : BS} {W : WX} {σ : L2.St} {ρ : Ev'} : ∀ {l : List (Str × FE)} {H G : Hp} {Q : List (V × V) → Hp → Prop}, SR C B σ H ρ G → PostA C .E W σ H G (evs l ρ) (fun vs H' => Q ((l.map fun p => V.str p.1).zip vs) H') →
    tPairs (l.map fun p => (tC (.str p.1), tM C B .E W p.2)) σ H Q
  | [], H, G, Q, s, p => p [] H G (Gr.refl s.exGH) (show VS.IsL C G [] [] from IsL.nil)
  | (k, f) :: r, H, G, Q, s, p => by
    show tM C B .E W f σ H fun y H2 => tPairs (r.map fun p => (tC (.str p.1), tM C B .E W p.2)) σ H2 fun ps H3 => Q ((.str k, y) :: ps) H3
    refine ⟨ρ, G, s, ?_⟩
    unfold evs at p
    cases e : f ρ with
    | ok t =>
      rw [e] at p
      intro v H1 G1 g1 i1
      have p1 : PostA C .E W σ H G ((evs r ρ).bind fun ts => .ok (t :: ts)) (fun vs H' => Q ((((k, f) :: r).map fun p => V.str p.1).zip vs) H') := p
      refine pairs_of (s.ext g1) ?_
      cases er : evs r ρ with
      | ok ts =>
        rw [er] at p1
        exact fun vs H2 G2 g2 i2 => p1 (v :: vs) H2 G2 (g1.trans g2) (IsL.cons (Is.mono g2.eg _ _ i1) i2)
      | ex x q =>
        rw [er] at p1
        exact fun cls d H2 G2 g2 i2 => p1 cls d H2 G2 (g1.trans g2) i2
      | bad =>
        rw [er] at p1
        exact p1
    | ex x q =>
      rw [e] at p
      exact p
    | bad =>
      rw [e] at p
      exact p
theorem merge_nodup : ∀ {more acc : List (Key × V)}, (more.map (·.1)).Nodup → (∀ p ∈ more, valV acc p.1 = none) → mergeK acc more = acc ++ more
  | [], acc, _, _ => by simp [mergeK]
  | p :: r, acc, hn, h => by
    have hn' := List.nodup_cons.mp (by simpa only [List.map_cons] using hn)
    show mergeK (putK acc p.1 p.2) r = _
    rw [putK_new p.2 (h p (List.mem_cons_self))]
    rw [merge_nodup hn'.2 fun q hq => ?_, List.append_assoc]
    · rfl
    · rw [valV_snoc _ _ _ _ (h p (List.mem_cons_self)), if_neg]
      · exact h q (List.mem_cons_of_mem _ hq)
      · intro e
        exact hn'.1 (by rw [← e]; exact List.mem_map_of_mem hq)
theorem zip_keys : ∀ (l : List (Str × FE)) (vs : List V), (l.map fun p => V.str p.1).zip vs = ((l.map fun p => (Sum.inr p.1 : Key)).zip vs).map fun kv => (kV kv.1, kv.2)
  | [], _ => rfl
  | _ :: _, [] => rfl
  | p :: l, v :: vs => by
    show (V.str p.1, v) :: (l.map fun p => V.str p.1).zip vs = (V.str p.1, v) :: ((l.map fun p => (Sum.inr p.1 : Key)).zip vs).map fun kv => (kV kv.1, kv.2)
    rw [zip_keys l vs]
section
variable {X : Cx} {B : BS} {W : WX} {m : Md} {a b e v : Expr} {fa fb f : FE} {pos p2 : Pos} {keys ks : List (Option Expr)} {values vs : List Expr} {l : List (Str × FE)}
theorem p_nil : DP X B W pos [] [] [] := pps_nil
theorem p_cons {k : Str} {j : Nat} (hv : DE X B W .E v f) (hr : DP X B W pos ks vs l) : DP X B W pos (some (.Constant (.str k) j p2) :: ks) (v :: vs) ((k, f) :: l) := pps_cons pe_str hv hr
theorem keys_str {G : Hp} {C : KM} : ∀ (l : List Str), IsL C G (l.map T.str) (l.map V.str)
  | [] => IsL.nil
  | x :: r => IsL.cons Is.strI (keys_str r)
theorem d_disp (h : DP X B W pos keys values l) (hall : keys.all (·.isSome) = true) (hl : keys.length = values.length) (h0 : keys ≠ []) (h15 : keys.length ≤ 15) : DE X B W .N (.Dict keys values pos) (eDisp l) :=
  PE.imp (pe_disp h hall hl h0 h15) fun σ H Q ⟨ρ, G, s, p⟩ => fun d hd => by
    have sb : SR (km X) B σ (upd H d (.dK [])) ρ G := s.beside (fresh_back s.gr.eh hd) (ex_none s.exGH hd) (fun i t q ea => by
      obtain ⟨a, o, q1, _, q3, _⟩ := s.ow i t q
      rw [q1] at ea
      cases ea
      rw [hd] at q3
      cases q3) (s.dpFree (Gr.refl s.exGH) hd)
    refine pairs_of sb ?_
    unfold eDisp at p
    cases e : evs l ρ with
    | ok ts =>
      rw [e] at p
      have p1 : Post (km X) .N W σ H G (if (l.map (·.1)).Nodup ∧ l.length ≤ 15 then .ok (.dic (l.map fun p => .str p.1) ts) else .bad) Q := p
      split at p1
      · rename_i hc
        intro vs H2 G2 g2 i2
        have hl2 : ts.length = l.length := by
          have : ∀ (l : List (Str × FE)) (ts : List T), evs l ρ = .ok ts → ts.length = l.length := by
            intro l
            induction l with
            | nil => intro ts q; cases q; rfl
            | cons a r ih =>
              intro ts q
              unfold evs at q
              cases ea : a.2 ρ with
              | ok t =>
                rw [ea] at q
                cases er : evs r ρ with
                | ok us =>
                  have q' : ((evs r ρ).bind fun ts => Res.ok (t :: ts)) = .ok ts := q
                  rw [er] at q'
                  cases q'
                  show us.length + 1 = r.length + 1
                  rw [ih us er]
                | ex x y =>
                  have q' : ((evs r ρ).bind fun ts => Res.ok (t :: ts)) = .ok ts := q
                  rw [er] at q'
                  cases q'
                | bad =>
                  have q' : ((evs r ρ).bind fun ts => Res.ok (t :: ts)) = .ok ts := q
                  rw [er] at q'
                  cases q'
              | ex x y => rw [ea] at q; cases q
              | bad => rw [ea] at q; cases q
          exact this l ts e
        have hvs : vs.length = l.length := by rw [← IsL.length i2]; exact hl2
        refine ⟨g2.eh _ _ upd_same, (l.map fun p => (Sum.inr p.1 : Key)).zip vs, ?_, ?_, ?_⟩
        · exact zip_keys l vs
        · rw [List.length_zip, List.length_map]
          omega
        · have nd : (((l.map fun p => (Sum.inr p.1 : Key)).zip vs).map (·.1)) = l.map fun p => (Sum.inr p.1 : Key) := List.map_fst_zip (by rw [List.length_map]; omega)
          have hnd : (l.map fun p => (Sum.inr p.1 : Key)).Nodup := by
            have : (l.map fun p => (Sum.inr p.1 : Key)) = (l.map (·.1)).map (fun x => (Sum.inr x : Key)) := by rw [List.map_map]; rfl
            rw [this]
            exact List.Pairwise.map _ (fun a b h q => h (Sum.inr.inj q)) hc.1
          rw [merge_nodup (by rw [nd]; exact hnd) (fun _ _ => rfl), List.nil_append]
          have hGd : G2 d = none := g2.sep _ _ (ex_none s.exGH hd) upd_same
          have gg : Gr H G (upd H2 d (.dK ((l.map fun p => (Sum.inr p.1 : Key)).zip vs))) G2 :=
            ⟨Ex.mut ((Ex.new hd).trans g2.eh) hd, g2.eg, Ex.mut g2.gh hGd, fun x o q1 q2 => g2.sep x o q1 (Ex.new hd _ _ q2)⟩
          refine p1 _ _ G2 gg ⟨d, _, rfl, hd, upd_same, hGd, _, rfl, ?_, ?_⟩
          · have e1 : (((l.map fun p => (Sum.inr p.1 : Key)).zip vs).map fun p => kV p.1) = (l.map (·.1)).map V.str := by
              rw [show (fun p : Key × V => kV p.1) = kV ∘ (fun p : Key × V => p.1) from rfl, ← List.map_map, nd, List.map_map, List.map_map]
              rfl
            have e2 : (l.map fun p => T.str p.1) = (l.map (·.1)).map T.str := by rw [List.map_map]; rfl
            rw [e1, e2]
            exact keys_str _
          · rw [List.map_snd_zip (by rw [List.length_map]; omega)]
            exact i2
      · exact p1.elim
    | ex x q =>
      rw [e] at p
      exact fun cls dd H2 G2 g2 i2 => p cls dd H2 G2 ⟨(Ex.new hd).trans g2.eh, g2.eg, g2.gh, fun x o q1 q2 => g2.sep x o q1 (Ex.new hd _ _ q2)⟩ i2
    | bad =>
      rw [e] at p
      exact p.elim
end
end VS

namespace VS
open PySem PySem.Spec PyProof.Rows L2 Evl

/-! ### d[k] of a dict of one's own making -/
def keyEq : T → T → Bool
  | .int i, .int j => i == j
  | .str a, .str b => a == b
  | _, _ => false
def lookT : List T → List T → T → Option T
  | k :: ks, w :: ws, x => if keyEq k x then some w else lookT ks ws x
  | _, _, _ => none
def isKey : T → Bool
  | .int _ => true
  | .str _ => true
  | _ => false
def gDGet (x y : T) : Option T :=
  match x with
  | .dic ks ws => if isKey y && ks.all isKey then lookT ks ws y else none
  | _ => none
theorem Is.str1 {C : KM} {G : Hp} {i : Str} {v : V} (h : Is C G (.str i) v) : v = .str i := by unfold Is at h; exact h
section
variable {C : KM} {G H : Hp}
theorem key_of {y : T} {v : V} (h : isKey y = true) (i : IsS C H G y v) : ∃ k : Key, v = kV k := by
  cases y with
  | int n => exact ⟨.inl n, i.int⟩
  | str n => exact ⟨.inr n, i.str⟩
  | _ => cases h
theorem keyEq_of {x y : T} {k j : Key} (hx : isKey x = true) (hy : isKey y = true) (h : Is C G x (kV k)) (h' : IsS C H G y (kV j)) : keyEq x y = decide (k = j) := by
  cases y with
  | int n =>
    have e := h'.int
    cases j with
    | inl m =>
      have e' : m = n := V.int.inj e
      subst e'
      cases x with
      | int i =>
        have h := Is.int1 h
        cases k with
        | inl p =>
          have e2 : p = i := V.int.inj h
          subst e2
          rw [key_ll]
          rfl
        | inr p => cases h
      | str i =>
        have h := Is.str1 h
        cases k with
        | inl p => cases h
        | inr p =>
          rw [key_rl]
          rfl
      | _ => cases hx
    | inr m => cases e
  | str n =>
    have e := h'.str
    cases j with
    | inr m =>
      have e' : m = n := V.str.inj e
      subst e'
      cases x with
      | int i =>
        have h := Is.int1 h
        cases k with
        | inl p =>
          rw [key_lr]
          rfl
        | inr p => cases h
      | str i =>
        have h := Is.str1 h
        cases k with
        | inl p => cases h
        | inr p =>
          have e2 : p = i := V.str.inj h
          subst e2
          rw [key_rr]
          show (p == m) = _
          exact Bool.beq_eq_decide_eq p m
      | _ => cases hx
    | inl m => cases e
  | _ => cases hy
theorem look_of {y : T} {j : Key} (hy : isKey y = true) (h' : IsS C H G y (kV j)) : ∀ {ks ws : List T} {kvs : List (Key × V)} {t : T}, ks.all isKey = true → IsL C G ks (kvs.map fun p => kV p.1) → IsL C G ws (kvs.map fun p => p.2) → lookT ks ws y = some t → ∃ v, valV kvs j = some v ∧ Is C G t v
  | [], _, _, _, _, _, _, e => by simp [lookT] at e
  | _ :: _, [], _, _, _, _, _, e => by simp [lookT] at e
  | k :: ks, w :: ws, kvs, t, ha, hk, hw, e => by
    have ha' := Bool.and_eq_true_iff.mp (by simpa only [List.all_cons] using ha)
    cases kvs with
    | nil =>
      unfold IsL at hk
      obtain ⟨_, _, z, _⟩ := hk
      cases z
    | cons p r =>
      unfold IsL at hk hw
      obtain ⟨v1, r1, e1, k1, k2⟩ := hk
      obtain ⟨v2, r2, e2, w1, w2⟩ := hw
      obtain ⟨rfl, rfl⟩ := List.cons.inj e1
      obtain ⟨rfl, rfl⟩ := List.cons.inj e2
      have q := keyEq_of ha'.1 hy k1 h'
      unfold lookT at e
      by_cases c : p.1 = j
      · rw [q, decide_eq_true c] at e
        have e3 : w = t := Option.some.inj e
        subst e3
        exact ⟨p.2, valV_pos c, w1⟩
      · rw [q, decide_eq_false c] at e
        rw [valV_neg c]
        exact look_of hy h' ha'.2 k2 w2 e
end
section
variable {X : Cx} {B : BS} {W : WX} {m : Md} {a b e : Expr} {fa fb f : FE} {pos p p2 : Pos}
theorem d_dget (hu : X.A.units + 1 < cLine) (ha : DE X B W .S a fa) (hb : DE X B W .S b fb) (hs : NoSl b := by exact fun _ _ => rfl) : DE X B W .E (.Subscript a b pos) (eB gDGet fa fb) :=
  PE.imp (pe_dget hu ha hb hs) fun σ H Q ⟨ρ, G, s, p⟩ => bindS s p fun x v H1 G1 g1 s1 i1 p1 => bindS s1 p1 fun y u H2 G2 g2 s2 i2 p2 => by
    obtain ⟨t, e, q⟩ := p2.of
    cases x with
    | dic ks ws =>
      simp only [gDGet] at e
      split at e
      · rename_i c
        have c' := Bool.and_eq_true_iff.mp c
        obtain ⟨ad, kvs, rfl, h1, h2, h3⟩ := (i1.mono g2).dic s2.exGH
        obtain ⟨j, rfl⟩ := key_of c'.1 i2
        obtain ⟨w, e1, e2⟩ := look_of c'.1 i2 c'.2 h2 h3 e
        exact ⟨ad, w, rfl, by rw [← e1]; exact DGet.k h1, qE q s2.exGH e2⟩
      · cases e
    | _ => cases e

/-! ### a written dict with text keys -/
/-- the global x is a written dict: tbl its entries, miss: texts that are no keys of it -/
structure GDic (C : KM) (w : World) (x : Str) (d : Addr) (tbl : List (Str × T)) (miss : List Str) : Prop where
  gl : C.mg x = some (.ref d)
  kd : ∃ es n, KDict C.K w d es n
  hit : ∀ z t, tbl.lookup z = some t → ∃ u v, PySem.W.nsIn C.K d z = some (some u) ∧ RelV v u ∧ ∀ G, Is C G t v
  no : ∀ z, z ∈ miss → PySem.W.nsIn C.K d z = some none
def gGIn (neg : Bool) (tbl : List (Str × T)) (miss : List Str) (x : T) : Option T :=
  match x with
  | .str z => if z ∈ miss then some (.bl neg) else if (tbl.lookup z).isSome then some (.bl (!neg)) else none
  | _ => none
def gGGet (tbl : List (Str × T)) (x : T) : Option T :=
  match x with
  | .str z => tbl.lookup z
  | _ => none
theorem d_gget {x : Str} {d : Addr} {tbl : List (Str × T)} {miss : List Str} (D : GDic (km X) X.w x d tbl miss) (hg : Gl X x) (hb : DE X B W .S b fb) (hdb : (x == ("__debug__" : Str)) = false := by decide) (hs : PlainIx b := by exact fun _ _ => rfl) :
    DE X B W .E (.Subscript (.Name x p) b pos) (eU (gGGet tbl) fb) :=
  PE.imp (pe_ix ix_kdict (pe_glob (v := .ref d) hg D.gl rfl hdb) hb hs) fun σ H Q ⟨ρ, G, s, q⟩ => bindS s q fun y u H1 G1 g1 s1 i1 p1 => by
    obtain ⟨t, e, q1⟩ := p1.of
    cases y with
    | str z =>
      obtain ⟨w, v, h1, h2, h3⟩ := D.hit z t e
      obtain ⟨es, n, kd⟩ := D.kd
      exact ⟨d, z, v, rfl, i1.str, ⟨es, n, w, kd.at_, kd.lit, h1, h2⟩, qE q1 s1.exGH (h3 G1)⟩
    | _ => cases e
theorem gin_of {neg : Bool} {tbl : List (Str × T)} {miss : List Str} {C : KM} {w : World} {x : Str} {d : Addr} (D : GDic C w x d tbl miss) {y t : T} (e : gGIn neg tbl miss y = some t) : ∃ z r, y = .str z ∧ PySem.W.nsIn C.K d z = some r ∧ t = .bl (if neg then !r.isSome else r.isSome) := by
  cases y with
  | str z =>
    simp only [gGIn] at e
    split at e
    · rename_i c
      obtain rfl := Option.some.inj e
      exact ⟨z, none, rfl, D.no z c, by cases neg <;> rfl⟩
    · split at e
      · rename_i c
        obtain ⟨u, hu⟩ := Option.isSome_iff_exists.mp c
        obtain ⟨w, v, h1, h2, h3⟩ := D.hit z u hu
        obtain rfl := Option.some.inj e
        exact ⟨z, some w, rfl, h1, by cases neg <;> rfl⟩
      · cases e
  | _ => cases e
theorem d_gnin {x : Str} {d : Addr} {tbl : List (Str × T)} {miss : List Str} (D : GDic (km X) X.w x d tbl miss) (hg : Gl X x) (ha : DE X B W .S a fa) (hm : behindInMarks .NotIn (.Name x p) = false) (hdb : (x == ("__debug__" : Str)) = false := by decide) :
    DE X B W .E (.Compare a [.NotIn] [.Name x p] pos) (eU (gGIn true tbl miss) fa) := by
  obtain ⟨es, n, kd⟩ := D.kd
  exact PE.imp (pe_cmpR (op_notIn_kd kd) ha (pe_glob (v := .ref d) hg D.gl rfl hdb) hm) fun σ H Q ⟨ρ, G, s, q⟩ => bindS s q fun y u H1 G1 g1 s1 i1 p1 => by
    obtain ⟨t, e, q1⟩ := p1.of
    obtain ⟨z, r, rfl, h1, rfl⟩ := gin_of D e
    exact ⟨z, r, i1.str, rfl, h1, qE q1 s1.exGH Is.blI⟩
theorem t_gnin {x : Str} {d : Addr} {tbl : List (Str × T)} {miss : List Str} (D : GDic (km X) X.w x d tbl miss) (hg : Gl X x) (ha : DE X B W .S a fa) (hm : behindInMarks .NotIn (.Name x p) = false) (hdb : (x == ("__debug__" : Str)) = false := by decide) :
    DT X B W (.Compare a [.NotIn] [.Name x p] pos) (eU (gGIn true tbl miss) fa) := by
  obtain ⟨es, n, kd⟩ := D.kd
  exact PT.imp (pt_cmpR (op_notIn_kd kd) ha (pe_glob (v := .ref d) hg D.gl rfl hdb) hm) fun σ H Q ⟨ρ, G, s, q⟩ => bindS (m := .E) s (q.post (.inl rfl)) fun y u H1 G1 g1 s1 i1 p1 => by
    obtain ⟨t, e, q1⟩ := p1.of
    obtain ⟨z, r, rfl, h1, rfl⟩ := gin_of D e
    exact ⟨z, r, i1.str, rfl, h1, qE q1 s1.exGH Is.blI⟩
theorem d_gin {x : Str} {d : Addr} {tbl : List (Str × T)} {miss : List Str} (D : GDic (km X) X.w x d tbl miss) (hg : Gl X x) (ha : DE X B W .S a fa) (hm : behindInMarks .In (.Name x p) = false) (hdb : (x == ("__debug__" : Str)) = false := by decide) :
    DE X B W .E (.Compare a [.In] [.Name x p] pos) (eU (gGIn false tbl miss) fa) := by
  obtain ⟨es, n, kd⟩ := D.kd
  exact PE.imp (pe_cmpR (op_in_kd kd) ha (pe_glob (v := .ref d) hg D.gl rfl hdb) hm) fun σ H Q ⟨ρ, G, s, q⟩ => bindS s q fun y u H1 G1 g1 s1 i1 p1 => by
    obtain ⟨t, e, q1⟩ := p1.of
    obtain ⟨z, r, rfl, h1, rfl⟩ := gin_of D e
    exact ⟨z, r, i1.str, rfl, h1, qE q1 s1.exGH Is.blI⟩

/-! ### a def that a value names -/
def eCallV (tbl : Str → Option (Nat × Mir)) (ff : FE) (fa : FA) : FE := fun ρ => (ff ρ).bind fun x => match x with
  | .fn x => (match tbl x with
    | some (n, g) => eCall n g fa ρ
    | none => .bad)
  | _ => .bad
theorem d_callV {tbl : Str → Option (Nat × Mir)} {fe : Expr} {ff : FE} {es : List Expr} {fr : FA}
    (hF : ∀ x n g, tbl x = some (n, g) → ∃ (f : Addr) (fd : FuncData) (ps : List Str) (k : Nat), X.mg x = some (.ref f) ∧ PySem.W.keepIn X.K (.ref f) = true ∧ FnOk X.prog X.w X.K X.mg X.base (L2.CX X.prog X.w) k f fd ps (spD (km X) n g) ∧ Binds X.K fd ps [] ∧ Room k X.A)
    (hv : DE X B W .E fe ff) (tk : Tk X W) (ha : DA X B W .E (e :: es) fr) (he : starEach (e :: es) X.env = (false, eval e X.env) :: starEach es X.env := by rfl) (hpl : (backTo pos (starEach es X.env)).any (·.1) = false := by rfl)
    (hc : eval (.Call fe (e :: es) [] pos) X.env = (do callWith pos (← eval fe X.env) [] (backTo pos (starEach (e :: es) X.env)) (backToKw pos (keywordEach [] X.env))) := by rfl) :
    DE X B W .E (.Call fe (e :: es) [] pos) (eCallV tbl ff fr) := by
  refine ⟨fun pins s σ H Q I ⟨ρ, G, sr, p⟩ => ?_⟩
  refine Call_ (thn (hv.run pins s σ H (fun v H1 => ∃ x n g G1, tbl x = some (n, g) ∧ SR (km X) B σ H1 ρ G1 ∧ Is (km X) G1 (.fn x) v ∧ Post (km X) .E W σ H1 G1 (eCall n g fr ρ) Q) I
    (bindE sr p fun t v H1 G1 g s1 i p1 => ?_)) fun u s1 ⟨v, H1, I1, r1, x, n, g, G1, et, sr1, iv, p1⟩ => ?_) hc
  · cases t with
    | fn x =>
      cases et : tbl x with
      | some w =>
        obtain ⟨n, g⟩ := w
        have p2 : Post (km X) .E W σ H1 G1 (match tbl x with | some (n, g) => eCall n g fr ρ | none => .bad) Q := p1
        rw [et] at p2
        exact ⟨x, n, g, G1, et, s1, i, p2⟩
      | none =>
        have p2 : Post (km X) .E W σ H1 G1 (match tbl x with | some (n, g) => eCall n g fr ρ | none => .bad) Q := p1
        rw [et] at p2
        exact p2.elim
    | _ => exact p1.elim
  · unfold Is at iv
    obtain ⟨u', hm, r2⟩ := iv
    obtain ⟨f, fd, ps, k, hm2, hk, F, hb, hr⟩ := hF x n g et
    have hm3 : X.mg x = some u' := hm
    rw [hm2] at hm3
    obtain rfl := Option.some.inj hm3
    have ev : v = .ref f := by
      cases v <;> first | (cases (show Value.ref f = Value.ref _ from r2); rfl) | (obtain ⟨t, z⟩ := r2; cases z) | (cases r2)
    subst ev
    obtain rfl : u = Value.ref f := r1
    refine PySem.W.callWith_K (h₀ := X.base) I1.ok.mod.kin hk (thn (ha.run pos pins s1 σ H1 (fun vs H2 => spD (km X) n g vs H2 Q (WE W σ)) I1 (bindA sr1 p1 .E fun ts vs H2 G2 gr s2 i p2 => ?_)) fun us s2 ⟨vs, H2, I2, r, q⟩ => ⟨I2.kIn, run_fnS (E := WE W) F hr hb (tk σ) I2 r q⟩) he hpl
    split at p2
    · rename_i hl
      refine ⟨ts, G2, s2.exGH, i, hl, ?_⟩
      cases r : g ts with
      | ok t => rw [r] at p2; exact p2
      | ex x q => rw [r] at p2; exact p2
      | bad => rw [r] at p2; exact p2.elim
    · exact p2.elim
end

/-! ### try: body; except C as n: suite -/
def noXn (ρ : Ev') : Bool := ρ.all fun x => match x with | .xn _ _ => false | _ => true
def unX (i : Nat) (ρ : Ev') (k : Ev' → Out) : Out := if noXn (ρ.set i .un) then k (ρ.set i .un) else .bad
def sTry (sub : Str → Option Bool) (i : Nat) (fb fs : FS) : FS := fun ρ => match fb ρ with
  | .ex x p ρ1 => (match sub x with
    | some true => (match fs (ρ1.set i (.xn x p)) with
      | .nx ρ2 => unX i ρ2 .nx
      | .bk ρ2 => unX i ρ2 .bk
      | .ct ρ2 => unX i ρ2 .ct
      | .rt t => .rt t
      | _ => .bad)
    | some false => .ex x p ρ1
    | none => .bad)
  | o => o
theorem noXn_at {ρ : Ev'} (h : noXn ρ = true) {i : Nat} {x : Str} {p : List T} : ρ[i]? ≠ some (.xn x p) := fun e => by
  have z := List.all_eq_true.mp h _ (List.mem_of_getElem? e)
  cases z
section
variable {rm : Rm} {bi : List (Nat × Addr)} {X : Cx} {H0 G0 : Hp} {w0 : World} {W : WX} {x n : Str} {c : Value} {i : Nat} {body suite : List Stmt} {b₀ : Stmt} {np pos pos' : Pos} {fb fs : FS} {sub : Str → Option Bool}
theorem SR.toSu {C : KM} {σ : L2.St} {H G : Hp} {ρ : Ev'} (xa : Option (Addr × Value × Option Addr)) (s : SR C ⟨H0, G0, none, rm, w0, bi⟩ σ H ρ G) : SR C ⟨H0, G0, xa, rm, w0, bi⟩ σ H ρ G :=
  ⟨s.gr, s.sh, s.ow, s.ds, s.len, fun i x p e => (by obtain ⟨_, _, _, z, _⟩ := s.xn i x p e; cases z), s.dp⟩
theorem SR.ofSu {C : KM} {σ : L2.St} {H G : Hp} {ρ : Ev'} {xa : Option (Addr × Value × Option Addr)} (s : SR C ⟨H0, G0, xa, rm, w0, bi⟩ σ H ρ G) (i : Nat) (h : noXn (ρ.set i .un) = true) : SR C ⟨H0, G0, none, rm, w0, bi⟩ (σ.set i none) H (ρ.set i .un) G := by
  have z := s.setUn (i := i)
  exact ⟨z.gr, z.sh, z.ow, z.ds, z.len, fun j x p e => (noXn_at h e).elim, z.dp⟩
theorem st_try (hs : X.stack = X.env :: X.outer) (hf : X.env.frame = some X.env.locals) (hN : X.N.Nodup) (hi : X.N[i]? = some n) (hln : X.env.kindOf n = some .local) (hc : Names X x c) (tk : Takes X W)
    (hex : ∀ y b D, sub y = some b → X.mg y = some (.ref D) → PySem.W.exmOne X.K (.ref D) c = some b)
    (hb : ∀ (W' : WX) (pn : List (Addr × Obj)) (xe : Value → Shared → Prop), Takes (X.tr pn xe) W' → PassesOwn (model X.prog X.w) X.A X.env xe → DSs (X.tr pn xe) ⟨H0, G0, none, rm, w0, bi⟩ W' body fb)
    (hsu : ∀ (a : Addr) (oe : Obj) (cls : Value) (d : Option Addr) (pn : List (Addr × Obj)), Zc cls d oe → (∃ vs, oe.data = .fields vs) → DSs (X.suite a ((a, oe) :: pn)) ⟨H0, G0, some (a, cls, d), rm, w0, bi⟩ W0 (b₀ :: suite) fs) :
    DS X ⟨H0, G0, none, rm, w0, bi⟩ W (.Try body [.ExceptHandler (some (.Name x np)) (some n) (b₀ :: suite) pos'] [] [] pos) (sTry sub i fb fs) :=
  PS.imp (ps_try_as (i := i) (tb := fun W' => tS (km X) ⟨H0, G0, none, rm, w0, bi⟩ W' fb) (ts := fun a cls d => tS (km X) ⟨H0, G0, some (a, cls, d), rm, w0, bi⟩ W0 fs) hs hf hN hi hln hc tk hb hsu) fun D σ H ⟨ρ, G, s, p⟩ => by
    refine ⟨ρ, G, s, ?_⟩
    unfold sTry at p
    cases e : fb ρ with
    | ex y q ρ1 =>
      simp only [e] at p
      intro cls d σ' H' G' s' k xa
      cases es : sub y with
      | none =>
        simp only [es] at p
        exact p.elim
      | some b =>
        have xa' := xa
        obtain ⟨D0, h1, h2, h3⟩ := xa
        subst h2
        refine ⟨b, hex y b D0 es h1, fun hb2 a ha => ?_, fun hb2 => ?_⟩
        · subst hb2
          simp only [es] at p
          refine ⟨ρ1.set i (.xn y q), G', (s'.toSu (some (a, .ref D0, d))).set (fun u e => by cases e) (fun u e => by cases e) (fun y' q' e => by cases e; exact ⟨a, .ref D0, d, rfl, rfl, xa'⟩) (fun d e => by cases e) (fun t a e => by cases e), ?_⟩
          cases ef : fs (ρ1.set i (.xn y q)) with
          | nx ρ2 =>
            simp only [ef, unX] at p
            split at p
            · rename_i hn
              exact fun σ2 H2 G2 s2 k2 => p _ H2 G2 (s2.ofSu i hn) (k.trans k2)
            · exact p.elim
          | bk ρ2 =>
            simp only [ef, unX] at p
            split at p
            · rename_i hn
              exact fun σ2 H2 G2 s2 k2 => p _ H2 G2 (s2.ofSu i hn) (k.trans k2)
            · exact p.elim
          | ct ρ2 =>
            simp only [ef, unX] at p
            split at p
            · rename_i hn
              exact fun σ2 H2 G2 s2 k2 => p _ H2 G2 (s2.ofSu i hn) (k.trans k2)
            · exact p.elim
          | rt t =>
            simp only [ef] at p
            exact p
          | ex _ _ _ =>
            simp only [ef] at p
            exact p.elim
          | bad =>
            simp only [ef] at p
            exact p.elim
        · subst hb2
          simp only [es] at p
          exact p (.ref D0) d σ' H' G' s' k xa'
    | nx ρ1 => simp only [e] at p; exact p
    | bk ρ1 => simp only [e] at p; exact p
    | ct ρ1 => simp only [e] at p; exact p
    | rt t => simp only [e] at p; exact p
    | bad => simp only [e] at p; exact p
end

/-! ### isinstance(e, C), e what the suite holds -/
def eIsE (i : Nat) (sub : Str → Option Bool) : FE := fun ρ => match ρ[i]? with
  | some (.xn x []) => (match sub x with | some b => .ok (.bl b) | none => .bad)
  | _ => .bad
section
variable {rm : Rm} {bi : List (Nat × Addr)} {X : Cx} {H0 G0 : Hp} {w0 : World} {a : Addr} {oe : Obj} {cls : Value} {d : Option Addr} {pn : List (Addr × Obj)} {i : Nat} {n : Str} {pe p pos pc : Pos} {sub : Str → Option Bool}
/-- isinstance(e, (c1, c2, ..)) -/
def rIsEs (K : PySem.W.Frag) (D a : Addr) : List V → Hp → VK → Prop := fun xs H Q => ∃ (tp : Addr) (cs : List V) (us : List Value) (b : Bool), xs = [.ref a, .ref tp] ∧ H tp = some (.tup cs) ∧ Paired ClsV cs us ∧ PySem.W.kitAny K (.ref D) us = some b ∧ Q (.bl b) H
theorem call_isEs {D : Addr} (C : ExcC X.K D) (hz : Zc (.ref D) none oe) (hf : ∃ vs, oe.data = .fields vs) : CallR (X.suite a ((a, oe) :: pn)) (.builtin "isinstance") (rIsEs X.K D a) := by
  intro pins s σ H xs us Q I r h
  obtain ⟨tp, cs, ws, b, rfl, hT, k, e, q⟩ := h
  obtain ⟨u1, u2, rfl, r1, r2⟩ := vals2 r
  cases (show u1 = Value.ref a from r1)
  cases (show u2 = Value.ref tp from r2)
  obtain ⟨hget, _⟩ := I.pin (a, oe) (List.mem_append.mpr (.inl List.mem_cons_self))
  obtain ⟨vs, hv⟩ := hf
  have J : PySem.W.InstAt s.heap a oe D none := by
    obtain ⟨oc, od, oda, osl⟩ := oe
    obtain ⟨h1, h2⟩ := hz
    dsimp only at h1 h2 hv
    subst h1 h2 hv
    exact ⟨hget, rfl, rfl, trivial⟩
  obtain ⟨_, its, rv, o, h1, h2, n, h3⟩ := (show ObjOk X.prog X.w H s.heap tp (.tup cs) from I.hok tp _ hT)
  have e3 := ClsV.all k rv
  subst e3
  obtain ⟨oc, od, dt, sl⟩ := o
  simp only at h2 h3
  subst h2 h3
  exact PySem.W.kia_tup (PySem.W.handS_kitx_exc C.hg C.hk C.hs C.hd C.ha C.hn C.ht C.hm) I.kIn J h1 e (fun z => nomatch z) fun tk => ⟨.bl b, H, I.tok tk, rfl, q⟩
theorem d_isE {e2 : Expr} {c : V} {cv : Value} (hz : Zc cls d oe) (hf : ∃ vs, oe.data = .fields vs) (hN : X.N[i]? = some n) (hv : Vis X.env.scope n) (hg : Gl X "isinstance") (hm : X.mg "isinstance" = none)
    (h2 : PE (X.suite a ((a, oe) :: pn)) e2 (tC c)) (hcv : ∀ u, RelV c u → u = cv) (hF : ∀ y b D, sub y = some b → X.mg y = some (.ref D) → ExcC X.K D ∧ PySem.W.kitOne X.K (.ref D) cv = some b)
    (hd1 : (n == ("__debug__" : Str)) = false := by decide) (hd2 : (n == ("__classdict__" : Str)) = false := by decide)
    (hb : bootBuiltins "isinstance" = some (.builtin "isinstance") := by decide +kernel) (he : starEach [.Name n pe, e2] X.env = (false, eval (.Name n pe) X.env) :: starEach [e2] X.env := by rfl) (he2 : starEach [e2] X.env = (false, eval e2 X.env) :: starEach [] X.env := by rfl) (hpl : (backTo pos (starEach [e2] X.env)).any (·.1) = false := by rfl) :
    DE (X.suite a ((a, oe) :: pn)) ⟨H0, G0, some (a, cls, d), rm, w0, bi⟩ W0 .E (.Call (.Name "isinstance" p) [.Name n pe, e2] [] pos) (eIsE i sub) := by
  refine ⟨fun pins s σ H Q I ⟨ρ, G, sr, q⟩ => ?_⟩
  unfold eIsE at q
  split at q
  · rename_i x e
    obtain ⟨a', cls', d', z, q1, D, m1, m2, m3⟩ := sr.xn i x [] e
    cases z
    subst m2
    have m3' : d = none := m3
    subst m3'
    cases es : sub x with
    | none =>
      simp only [es] at q
      exact q.elim
    | some b =>
      simp only [es] at q
      obtain ⟨hC, hk⟩ := hF x b D es m1
      exact (pe_callB (X := X.suite a ((a, oe) :: pn)) (call_isE hC hz hf) hg hm hb (pa_cons (pe_var hN hv hd1 hd2) (pa_cons h2 pa_nil he2) he) (by decide) (by decide) he hpl).run pins s σ H Q I
        ⟨_, q1, c, cv, b, rfl, hcv, hk, qE q sr.exGH Is.blI⟩
  · exact q.elim
theorem d_isEs {es : List Expr} {x1 : Nat} {pt : Pos} {ta : TA} {cs : List V} {us : List Value} (hz : Zc cls d oe) (hf : ∃ vs, oe.data = .fields vs) (hN : X.N[i]? = some n) (hv : Vis X.env.scope n) (hg : Gl X "isinstance") (hm : X.mg "isinstance" = none)
    (h2 : PA (X.suite a ((a, oe) :: pn)) es ta) (hta : ∀ σ H Q, Q cs H → ta σ H Q) (hl : cs.length ≤ 1000) (hcs : Paired ClsV cs us) (hF : ∀ y b D, sub y = some b → X.mg y = some (.ref D) → ExcC X.K D ∧ PySem.W.kitAny X.K (.ref D) us = some b)
    (hd1 : (n == ("__debug__" : Str)) = false := by decide) (hd2 : (n == ("__classdict__" : Str)) = false := by decide)
    (hb : bootBuiltins "isinstance" = some (.builtin "isinstance") := by decide +kernel) (he : starEach [.Name n pe, .Tuple es x1 pt] X.env = (false, eval (.Name n pe) X.env) :: starEach [.Tuple es x1 pt] X.env := by rfl)
    (he2 : starEach [.Tuple es x1 pt] X.env = (false, eval (.Tuple es x1 pt) X.env) :: starEach [] X.env := by rfl) (hpl : (backTo pos (starEach [.Tuple es x1 pt] X.env)).any (·.1) = false := by rfl) :
    DE (X.suite a ((a, oe) :: pn)) ⟨H0, G0, some (a, cls, d), rm, w0, bi⟩ W0 .E (.Call (.Name "isinstance" p) [.Name n pe, .Tuple es x1 pt] [] pos) (eIsE i sub) := by
  refine ⟨fun pins s σ H Q I ⟨ρ, G, sr, q⟩ => ?_⟩
  unfold eIsE at q
  split at q
  · rename_i x e
    obtain ⟨a', cls', d', z, q1, D, m1, m2, m3⟩ := sr.xn i x [] e
    cases z
    subst m2
    have m3' : d = none := m3
    subst m3'
    cases es' : sub x with
    | none =>
      simp only [es'] at q
      exact q.elim
    | some b =>
      simp only [es'] at q
      obtain ⟨hC, hk⟩ := hF x b D es' m1
      refine (pe_callB (X := X.suite a ((a, oe) :: pn)) (call_isEs hC hz hf) hg hm hb (pa_cons (pe_var hN hv hd1 hd2) (pa_cons (pe_tup h2) pa_nil he2) he) (by decide) (by decide) he hpl).run pins s σ H Q I
        ⟨_, q1, hta _ _ _ ⟨Nat.le_of_lt (small1000 hl), fun tp ht => ⟨tp, cs, us, b, rfl, upd_same, hcs, hk, q _ _ G ⟨Ex.new ht, Ex.refl _, sr.exGH.trans (Ex.new ht), fun _ _ z _ => z⟩ (show VS.Is (km X) G (.bl b) (.bl b) from Is.blI)⟩⟩⟩
  · exact q.elim
end
end VS

namespace VS
open PySem PySem.Spec PyProof.Rows L2 Evl

/-- a def of the text, by its name: it answers as the mirror m does -/
structure Ok (P : Program) (w : World) (K : PySem.W.Frag) (mg : Str → Option Value) (base : Heap) (k : Nat) (x : Str) (n : Nat) (m : Mir) : Prop where
  ex : ∃ (f : Addr) (fd : FuncData) (ps : List Str), mg x = some (.ref f) ∧ PySem.W.keepIn K (.ref f) = true ∧ FnOk P w K mg base (L2.CX P w) k f fd ps (spD ⟨K, mg⟩ n m) ∧ Binds K fd ps []
/-- .. as the head finds it -/
structure At (K : PySem.W.Frag) (mg : Str → Option Value) (x : Str) (st : Stmt) (ps : List Str) : Prop where
  ex : ∃ (f : Addr) (fd : FuncData), mg x = some (.ref f) ∧ Fun K x x st f fd ∧ Binds K fd ps []
theorem okO {P : Program} {w : World} {K : PySem.W.Frag} {mg : Str → Option Value} {base : Heap} {x : Str} {st : Stmt} {N ps : List Str} {k n : Nat} {fs : FS} {m : Mir} (A : At K mg x st ps) (S : FnScope N ps (defScope st)) (hn : n = ps.length) (hm : m = fDef N.length fs)
    (hbody : ∀ (f : Addr) (cdv : Value) (A : Around) (outer : List Env) (s : Shared) (H G : Hp) (E : XK), Room k (A.deeper (envOfC x (defScope st) s.heap.objs.size f cdv)) →
      DSs (cxOf (L2.CX P w) P w K mg base N x (defScope st) f cdv A outer s H E) ⟨H, G, none, .E, w, []⟩ (fun cls d _ H' => E cls d H') (defBody st) fs) :
    Ok P w K mg base (k + 1) x n m := by
  obtain ⟨f, fd, g, F, b⟩ := A.ex
  rw [hm]
  exact ⟨f, fd, ps, g, F.kp, def_ok F S hn (hbody f), b⟩
/-- .. whose answer is new -/
structure OkN (P : Program) (w : World) (K : PySem.W.Frag) (mg : Str → Option Value) (base : Heap) (k : Nat) (x : Str) (n : Nat) (m : Mir) : Prop where
  ex : ∃ (f : Addr) (fd : FuncData) (ps : List Str), mg x = some (.ref f) ∧ PySem.W.keepIn K (.ref f) = true ∧ FnOk P w K mg base (L2.CX P w) k f fd ps (spDN ⟨K, mg⟩ n m) ∧ Binds K fd ps []
theorem okON {P : Program} {w : World} {K : PySem.W.Frag} {mg : Str → Option Value} {base : Heap} {x : Str} {st : Stmt} {N ps : List Str} {k n : Nat} {fs : FS} {m : Mir} (A : At K mg x st ps) (S : FnScope N ps (defScope st)) (hn : n = ps.length) (hm : m = fDefN N.length fs)
    (hbody : ∀ (f : Addr) (cdv : Value) (A : Around) (outer : List Env) (s : Shared) (H G : Hp) (E : XK), Room k (A.deeper (envOfC x (defScope st) s.heap.objs.size f cdv)) →
      DSs (cxOf (L2.CX P w) P w K mg base N x (defScope st) f cdv A outer s H E) ⟨H, G, none, .N, w, []⟩ (fun cls d _ H' => E cls d H') (defBody st) fs) :
    OkN P w K mg base (k + 1) x n m := by
  obtain ⟨f, fd, g, F, b⟩ := A.ex
  rw [hm]
  exact ⟨f, fd, ps, g, F.kp, def_okN F S hn (hbody f), b⟩
section
variable {X : Cx} {B : BS} {W : WX} {e : Expr} {es : List Expr} {fr : FA} {pos p : Pos} {k n : Nat} {g : Mir} {x : Str}
theorem d_callN (O : OkN X.prog X.w X.K X.mg X.base k x n g) (hr : Room k X.A) (hg : Gl X x) (tk : Tk X W) (ha : DA X B W .E (e :: es) fr) (hdb : (x == ("__debug__" : Str)) = false := by decide)
    (he : starEach (e :: es) X.env = (false, eval e X.env) :: starEach es X.env := by rfl) (hpl : (backTo pos (starEach es X.env)).any (·.1) = false := by rfl) : DE X B W .N (.Call (.Name x p) (e :: es) [] pos) (eCall n g fr) := by
  obtain ⟨f, fd, ps, h1, h2, h3, h4⟩ := O.ex
  exact PE.imp (pe_callS h3 hr hg h1 h2 h4 tk ha hdb he hpl) fun σ H Q ⟨ρ, G, s, q⟩ => bindA s q .E fun ts vs H1 G1 gr s1 i p1 => by
    split at p1
    · rename_i hl
      refine ⟨ts, G1, s1.exGH, i, hl, ?_⟩
      cases r : g ts with
      | ok t => rw [r] at p1; exact p1
      | ex x q => rw [r] at p1; exact p1
      | bad => rw [r] at p1; exact p1.elim
    · exact p1.elim
end
section
variable {X : Cx} {B : BS} {W : WX} {e : Expr} {es : List Expr} {fr : FA} {pos p : Pos} {k n : Nat} {g : Mir} {x : Str}
theorem d_callO (O : Ok X.prog X.w X.K X.mg X.base k x n g) (hr : Room k X.A) (hg : Gl X x) (tk : Tk X W) (ha : DA X B W .E (e :: es) fr) (hdb : (x == ("__debug__" : Str)) = false := by decide)
    (he : starEach (e :: es) X.env = (false, eval e X.env) :: starEach es X.env := by rfl) (hpl : (backTo pos (starEach es X.env)).any (·.1) = false := by rfl) : DE X B W .E (.Call (.Name x p) (e :: es) [] pos) (eCall n g fr) := by
  obtain ⟨f, fd, ps, h1, h2, h3, h4⟩ := O.ex
  exact d_call h3 hr hg h1 h2 h4 tk ha hdb he hpl
theorem d_callOS (O : Ok X.prog X.w X.K X.mg X.base k x n g) (hr : Room k X.A) (hg : Gl X x) (tk : Tk X W) (ha : DA X B W .S (e :: es) fr) (hdb : (x == ("__debug__" : Str)) = false := by decide)
    (he : starEach (e :: es) X.env = (false, eval e X.env) :: starEach es X.env := by rfl) (hpl : (backTo pos (starEach es X.env)).any (·.1) = false := by rfl) : DE X B W .E (.Call (.Name x p) (e :: es) [] pos) (eCallS n g fr) := by
  obtain ⟨f, fd, ps, h1, h2, h3, h4⟩ := O.ex
  exact d_callS h3 hr hg h1 h2 h4 tk ha hdb he hpl
/-- a def's name as a value -/
theorem d_fnO (O : Ok X.prog X.w X.K X.mg X.base k x n g) (hg : Gl X x) (hd : (x == ("__debug__" : Str)) = false := by decide) : DE X B W .E (.Name x pos) (eC (.fn x)) := by
  obtain ⟨f, fd, ps, h1, h2, h3, h4⟩ := O.ex
  exact d_fn (v := .ref f) hg h1 rfl hd
/-- a global constant of ints -/
theorem d_gi {i : Int} (h : ∃ t, X.mg x = some (.int i t)) (hg : Gl X x) (hd : (x == ("__debug__" : Str)) = false := by decide) : DE X B W .E (.Name x pos) (eC (.int i)) := by
  obtain ⟨t, h⟩ := h
  exact d_gc (v := .int i) hg h ⟨t, rfl⟩ (fun _ => Is.intI) hd
theorem d_gs {i : Str} (h : ∃ t, X.mg x = some (.str i t)) (hg : Gl X x) (hd : (x == ("__debug__" : Str)) = false := by decide) : DE X B W .E (.Name x pos) (eC (.str i)) := by
  obtain ⟨t, h⟩ := h
  exact d_gc (v := .str i) hg h ⟨t, rfl⟩ (fun _ => Is.strI) hd
end
/-- an own exception class of the text -/
structure XC (K : PySem.W.Frag) (mg : Str → Option Value) (x : Str) : Prop where
  ex : ∃ D, mg x = some (.ref D) ∧ PySem.W.excIn K D PySem.HandSPX.veTail "ValueError.__new__" = true ∧ PySem.W.keepIn K (.ref D) = true ∧ PySem.W.subIn K (.ref D) (.type "BaseException") = some true ∧ PySem.W.typeIn K (.ref D) = some (.type "type")
theorem st_raiseO {X : Cx} {B : BS} {W : WX} {x m : Str} {j : Nat} {p p2 p3 pos : Pos} (h : XC X.K X.mg x) (hc : X.calm = true) (tk : Takes X W) (hg : Gl X x) (hdb : (x == ("__debug__" : Str)) = false := by decide) :
    DS X B W (.Raise (some (.Call (.Name x p) [.Constant (.str m) j p2] [] p3)) none pos) (sRaise x) := by
  obtain ⟨D, h1, h2, h3, h4, h5⟩ := h.ex
  exact st_raise hc tk PySem.F.excBase_ValueError h2 h1 h3 (raises_own h4 h5) hg hdb
/-! ### written dicts, try, isinstance: by existence -/
def GD (C : KM) (w : World) (x : Str) (tbl : List (Str × T)) (miss : List Str) : Prop := ∃ d, GDic C w x d tbl miss
section
variable {X : Cx} {B : BS} {W : WX} {a b : Expr} {fa fb : FE} {pos p : Pos} {x : Str} {tbl : List (Str × T)} {miss : List Str}
theorem d_ggetO (D : GD (km X) X.w x tbl miss) (hg : Gl X x) (hb : DE X B W .S b fb) (hdb : (x == ("__debug__" : Str)) = false := by decide) (hs : PlainIx b := by exact fun _ _ => rfl) : DE X B W .E (.Subscript (.Name x p) b pos) (eU (gGGet tbl) fb) := by
  obtain ⟨d, D⟩ := D
  exact d_gget D hg hb hdb hs
theorem d_gninO (D : GD (km X) X.w x tbl miss) (hg : Gl X x) (ha : DE X B W .S a fa) (hm : behindInMarks .NotIn (.Name x p) = false) (hdb : (x == ("__debug__" : Str)) = false := by decide) : DE X B W .E (.Compare a [.NotIn] [.Name x p] pos) (eU (gGIn true tbl miss) fa) := by
  obtain ⟨d, D⟩ := D
  exact d_gnin D hg ha hm hdb
theorem t_gninO (D : GD (km X) X.w x tbl miss) (hg : Gl X x) (ha : DE X B W .S a fa) (hm : behindInMarks .NotIn (.Name x p) = false) (hdb : (x == ("__debug__" : Str)) = false := by decide) : DT X B W (.Compare a [.NotIn] [.Name x p] pos) (eU (gGIn true tbl miss) fa) := by
  obtain ⟨d, D⟩ := D
  exact t_gnin D hg ha hm hdb
theorem d_ginO (D : GD (km X) X.w x tbl miss) (hg : Gl X x) (ha : DE X B W .S a fa) (hm : behindInMarks .In (.Name x p) = false) (hdb : (x == ("__debug__" : Str)) = false := by decide) : DE X B W .E (.Compare a [.In] [.Name x p] pos) (eU (gGIn false tbl miss) fa) := by
  obtain ⟨d, D⟩ := D
  exact d_gin D hg ha hm hdb
end
/-- x is a class of the text -/
def CL (mg : Str → Option Value) (x : Str) : Prop := ∃ D, mg x = some (.ref D)
section
variable {rm : Rm} {bi : List (Nat × Addr)} {X : Cx} {H0 G0 : Hp} {w0 : World} {a : Addr} {oe : Obj} {cls : Value} {d : Option Addr} {pn : List (Addr × Obj)} {i : Nat} {n x : Str} {pe p pos pc : Pos} {sub : Str → Option Bool}
theorem isE_own (hz : Zc cls d oe) (hf : ∃ vs, oe.data = .fields vs) (hN : X.N[i]? = some n) (hv : Vis X.env.scope n) (hm : X.mg "isinstance" = none) (hx : CL X.mg x)
    (hF : ∀ Dc, X.mg x = some (.ref Dc) → ∀ y b D, sub y = some b → X.mg y = some (.ref D) → ExcC X.K D ∧ PySem.W.kitOne X.K (.ref D) (.ref Dc) = some b)
    (hg : Gl X "isinstance" := by rfl) (hgx : Gl X x := by rfl) (hdx : (x == ("__debug__" : Str)) = false := by decide) (hd1 : (n == ("__debug__" : Str)) = false := by decide) (hd2 : (n == ("__classdict__" : Str)) = false := by decide)
    (hb : bootBuiltins "isinstance" = some (.builtin "isinstance") := by decide +kernel) (he : starEach [.Name n pe, .Name x pc] X.env = (false, eval (.Name n pe) X.env) :: starEach [.Name x pc] X.env := by rfl) (he2 : starEach [.Name x pc] X.env = (false, eval (.Name x pc) X.env) :: starEach [] X.env := by rfl) (hpl : (backTo pos (starEach [.Name x pc] X.env)).any (·.1) = false := by rfl) :
    DE (X.suite a ((a, oe) :: pn)) ⟨H0, G0, some (a, cls, d), rm, w0, bi⟩ W0 .E (.Call (.Name "isinstance" p) [.Name n pe, .Name x pc] [] pos) (eIsE i sub) := by
  obtain ⟨Dc, hx⟩ := hx
  exact d_isE (c := .ref Dc) (cv := .ref Dc) hz hf hN hv hg hm (pe_glob (X := X.suite a ((a, oe) :: pn)) (v := .ref Dc) hgx hx rfl hdx) (fun u h => h) (hF Dc hx) hd1 hd2 hb he he2 hpl
theorem isE_ty {T0 : String} (hz : Zc cls d oe) (hf : ∃ vs, oe.data = .fields vs) (hN : X.N[i]? = some n) (hv : Vis X.env.scope n) (hm : X.mg "isinstance" = none) (hmx : X.mg x = none) (hbx : bootBuiltins x = some (.type T0))
    (hF : ∀ y b D, sub y = some b → X.mg y = some (.ref D) → ExcC X.K D ∧ PySem.W.kitOne X.K (.ref D) (.type T0) = some b)
    (hg : Gl X "isinstance" := by rfl) (hgx : Gl X x := by rfl) (hnx : x ≠ "__name__" := by decide) (hdx : (x == ("__debug__" : Str)) = false := by decide) (hd1 : (n == ("__debug__" : Str)) = false := by decide) (hd2 : (n == ("__classdict__" : Str)) = false := by decide)
    (hb : bootBuiltins "isinstance" = some (.builtin "isinstance") := by decide +kernel) (he : starEach [.Name n pe, .Name x pc] X.env = (false, eval (.Name n pe) X.env) :: starEach [.Name x pc] X.env := by rfl) (he2 : starEach [.Name x pc] X.env = (false, eval (.Name x pc) X.env) :: starEach [] X.env := by rfl) (hpl : (backTo pos (starEach [.Name x pc] X.env)).any (·.1) = false := by rfl) :
    DE (X.suite a ((a, oe) :: pn)) ⟨H0, G0, some (a, cls, d), rm, w0, bi⟩ W0 .E (.Call (.Name "isinstance" p) [.Name n pe, .Name x pc] [] pos) (eIsE i sub) :=
  d_isE (c := .ty T0) (cv := .type T0) hz hf hN hv hg hm (pe_bltn (X := X.suite a ((a, oe) :: pn)) (v := .ty T0) hgx hmx hbx rfl hnx hdx) (fun u h => h) hF hd1 hd2 hb he he2 hpl
theorem st_tryO {W : WX} {body suite : List Stmt} {b₀ : Stmt} {np pos' : Pos} {fb fs : FS} (hs : X.stack = X.env :: X.outer) (hf : X.env.frame = some X.env.locals) (hN : X.N.Nodup) (hi : X.N[i]? = some n) (hln : X.env.kindOf n = some .local) (hx : CL X.mg x) (hgx : Gl X x) (tk : Takes X W)
    (hex : ∀ Dc, X.mg x = some (.ref Dc) → ∀ y b D, sub y = some b → X.mg y = some (.ref D) → PySem.W.exmOne X.K (.ref D) (.ref Dc) = some b)
    (hb : ∀ (W' : WX) (pn : List (Addr × Obj)) (xe : Value → Shared → Prop), Takes (X.tr pn xe) W' → PassesOwn (model X.prog X.w) X.A X.env xe → DSs (X.tr pn xe) ⟨H0, G0, none, rm, w0, bi⟩ W' body fb)
    (hsu : ∀ (a : Addr) (oe : Obj) (cls : Value) (d : Option Addr) (pn : List (Addr × Obj)), Zc cls d oe → (∃ vs, oe.data = .fields vs) → DSs (X.suite a ((a, oe) :: pn)) ⟨H0, G0, some (a, cls, d), rm, w0, bi⟩ W0 (b₀ :: suite) fs)
    (hdx : (x == ("__debug__" : Str)) = false := by decide) :
    DS X ⟨H0, G0, none, rm, w0, bi⟩ W (.Try body [.ExceptHandler (some (.Name x np)) (some n) (b₀ :: suite) pos'] [] [] pos) (sTry sub i fb fs) := by
  obtain ⟨Dc, hx⟩ := hx
  exact st_try hs hf hN hi hln ⟨hgx, hdx, .inl hx⟩ tk (hex Dc hx) hb hsu
end
/-! ### the law's own end -/
/-- what the law is asked -/
def spLaw (n : Nat) (K : PySem.W.Frag) : Sp := fun vs H Q _ => ∃ (a : Addr) (ns : List Int), vs = [.ref a] ∧ SqL K H a (ns.map V.int) ∧ ns.length ≤ n ∧ ∀ H', Q (.bl true) H'
/-- the law's def, by its mirror -/
theorem law_end {P : Program} {w : World} {K : PySem.W.Frag} {mg : Str → Option Value} {base : Heap} {k n : Nat} {f : Addr} {fd : FuncData} {ps : List Str} {m : Mir} (F : FnOk P w K mg base (L2.CX P w) k f fd ps (spD ⟨K, mg⟩ 1 m)) (hm : ∀ ns : List Int, ns.length ≤ n → m [.fro ns] = .ok (.bl true)) :
    FnOk P w K mg base (L2.CX P w) k f fd ps (spLaw n K) := F.imp fun vs H Q E ⟨a, ns, e, h, hl, q⟩ => by
  subst e
  refine ⟨[.fro ns], H, Ex.refl _, IsL.one (by unfold Is; exact ⟨a, rfl, h⟩), rfl, ?_⟩
  rw [hm ns hl]
  exact fun v H' G' _ i => by
    unfold Is at i
    subst i
    exact q H'
theorem cx_none {P : Program} {w : World} {H : Hp} {s : Shared} {e : Value} {s' : Shared} (h : L2.CX P w [] H s (fun _ _ _ => False) e s') : False := by
  obtain ⟨_, _, _, _, _, _, _, _, _, _, _, _, z⟩ := h
  exact z
/-- the script, then True -/
theorem law_sp {K : PySem.W.Frag} {mg : Str → Option Value} {m : Mir} {n : Nat} (hm : ∀ ns : List Int, ns.length ≤ n → m [.fro ns] = .ok (.bl true)) {a : Addr} {ns : List Int} {H : Hp} (hl : ns.length ≤ n) (h : SqL K H a (ns.map V.int)) :
    spD ⟨K, mg⟩ 1 m [.ref a] H (fun v _ => v = .bl true) (fun _ _ _ => False) := by
  refine ⟨[.fro ns], H, Ex.refl _, IsL.one (by unfold Is; exact ⟨a, rfl, h⟩), rfl, ?_⟩
  rw [hm ns hl]
  exact fun v H' G' _ i => by unfold Is at i; exact i
end VS

namespace VS
open PySem PySem.Spec PyProof.Rows L2 Evl

/-! ### str(int), str(str), list(range(n)) -/
def gStr : T → Option T
  | .int i => if i.natAbs.log2 < 1920 then some (.str (toString i)) else none
  | .str x => some (.str x)
  | _ => none
section
variable {X : Cx} {B : BS} {W : WX} {m : Md} {a b : Expr} {fa fb : FE} {pos p p2 pos2 : Pos}
theorem c_str : CallR X (.type "str") (rC (km X) .E gStr) := by
  intro pins s σ H xs us Q I r h
  obtain ⟨x, v, G, t, rfl, ex, ix, e, q⟩ := h
  cases x with
  | int i =>
    simp only [gStr] at e
    split at e
    · rename_i hb
      obtain rfl := Option.some.inj e
      obtain rfl := ix.int
      exact call_str_int pins s σ H _ us Q I r ⟨i, rfl, hb, qE q ex (show Is (km X) G (.str (toString i)) _ by unfold Is; rfl)⟩
    · cases e
  | str y =>
    obtain rfl := Option.some.inj e
    obtain rfl := ix.str
    exact SkE.call_str_str pins s σ H _ us Q I r ⟨y, rfl, qE q ex Is.strI⟩
  | _ => cases e
def rgT (a b : Int) : List T := (List.range (b - a).toNat).map fun i => T.int (a + (i : Nat))
theorem rgT_is {C : KM} {G : Hp} (a b : Int) : IsL C G (rgT a b) (rgV a b) := by
  unfold rgT rgV
  generalize (List.range (b - a).toNat) = l
  induction l with
  | nil => exact IsL.nil
  | cons x r ih => exact IsL.cons (by unfold Is; rfl) ih
def eLRg (fa : FE) : FE := fun ρ => (fa ρ).bind fun x => match x with | .int n => if -100000 ≤ n ∧ n ≤ 100000 then .ok (.lst (rgT 0 n)) else .bad | _ => .bad
theorem d_lRg (hc : X.calm = true) (hg : Gl X "list") (hm : X.mg "list" = none) (hg2 : Gl X "range") (hm2 : X.mg "range" = none) (ha : DE X B W .E a fa) (na : starEach [a] X.env = (false, eval a X.env) :: starEach [] X.env := by rfl)
    (nb : starEach [.Call (.Name "range" p2) [a] [] pos2] X.env = (false, eval (.Call (.Name "range" p2) [a] [] pos2) X.env) :: starEach [] X.env := by rfl) :
    DE X B W .N (.Call (.Name "list" p) [.Call (.Name "range" p2) [a] [] pos2] [] pos) (eLRg fa) :=
  PE.imp (pe_listRg hc hg hm (prg_1 hg2 hm2 ha na) nb) fun σ H Q ⟨ρ, G, s, q⟩ => bindE s q fun t v H1 G1 g1 s1 i1 p1 => by
    cases t with
    | int n =>
      have p2 : Post (km X) .N W σ H1 G1 (if -100000 ≤ n ∧ n ≤ 100000 then .ok (.lst (rgT 0 n)) else .bad) Q := p1
      split at p2
      · rename_i hn
        obtain rfl := Is.int1 i1
        refine ⟨n, rfl, ⟨by omega, by omega, by omega, by omega, by omega⟩, fun d hd => ?_⟩
        exact p2 _ _ G1 (Gr.own s1.exGH hd) ⟨d, _, rfl, hd, upd_same, ex_none s1.exGH hd, _, rfl, rgT_is 0 n⟩
      · exact p2.elim
    | _ => exact p1.elim
end
/-! ### the head's facts -/
theorem fun_of {K : PySem.W.Frag} {x : Str} {st : Stmt} {f : Addr} {fd : FuncData} (F : FunD K x x (defArgs st) (defBody st) (defScope st) [] [] f fd) : Fun K x x st f fd := by
  obtain ⟨⟨oc, od, dV, kV, doc, pm, an, cdv, ct, osl, e, lk, hcd, hD, hK⟩, kp⟩ := F
  rcases hD with ⟨_, rfl⟩ | ⟨z, _⟩
  · exact ⟨⟨oc, od, kV, doc, pm, an, cdv, ct, osl, e, lk, hcd⟩, kp⟩
  · exact absurd rfl z
theorem at_of {K : PySem.W.Frag} {h : Heap} {mg : Str → Option Value} {x : Str} {st : Stmt} {ps : List Str} (X : K.In h) (G : h.Ns mainGlobals mg) (hg : (He.Fa.glo x).ok K = true) (hd : ∃ fd, FunD K x x (defArgs st) (defBody st) (defScope st) [] [] (He.ga K x) fd)
    (hb : ∀ (kV doc pm : Value) (an : Option Addr) (cdv ct : Value) (us : List Value), us.length = ps.length → bindArgs (PySem.W.fnOf x x (defArgs st) (defBody st) (defScope st) .none kV doc pm an cdv ct) ⟨us, []⟩ = pure (ps.zip us)) : At K mg x st ps := by
  obtain ⟨fd, F⟩ := hd
  exact ⟨_, fd, He.glo_ok X G hg, fun_of F, (fun_of F).binds hb⟩
theorem xc_of {K : PySem.W.Frag} {h : Heap} {mg : Str → Option Value} {x : Str} (X : K.In h) (G : h.Ns mainGlobals mg) (hg : (He.Fa.glo x).ok K = true) (he : (He.Fa.exc x).ok K = true) : XC K mg x := by
  obtain ⟨h1, h2, h3, h4⟩ := He.exc_ok he
  exact ⟨_, He.glo_ok X G hg, h1, h2, h3, h4⟩
theorem cl_of {K : PySem.W.Frag} {h : Heap} {mg : Str → Option Value} {x : Str} (X : K.In h) (G : h.Ns mainGlobals mg) (hg : (He.Fa.glo x).ok K = true) : CL mg x := ⟨_, He.glo_ok X G hg⟩
def dO (a b : Option Bool) : Bool := decide (a = b)
/-- what the head looks at, beside the facts -/
inductive Xa where
  | exi (x : Str)
  | kit (x y : Str) (b : Bool)
  | kiT (x : Str) (n : String) (b : Bool)
  | kin (x : Str) (ys : List Str) (b : Bool)
  | tab (d : Str) (tbl : List (Str × T)) (miss : List Str)
def leafB : T → Value → Bool
  | .str x, .str y _ => decide (x = y)
  | .int i, .int j _ => decide (i = j)
  | _, _ => false
def leafs : List T → List Value → Bool
  | [], [] => true
  | t :: ts, u :: us => leafB t u && leafs ts us
  | _, _ => false
def entB (K : PySem.W.Frag) (t : T) (u : Value) : Bool := match t, u with
  | .tup l, .ref a => (match K.lookup a with
    | some ⟨.type c, _, .seq its _, _⟩ => decide (c = "tuple") && (decide (its.size ≤ sizeLine) && leafs l its.toList)
    | _ => false)
  | t, u => leafB t u
def Xa.ok (K : PySem.W.Frag) : Xa → Bool
  | .exi x => He.eqO (PySem.W.findIn K (.ref (He.ga K x)) "__getattribute__") (some (some (.builtin "BaseException.__getattribute__"))) && (He.eqO (PySem.W.findIn K (.ref (He.ga K x)) "__getattr__") (some none) &&
      (dO (PySem.W.subIn K (.ref (He.ga K x)) (.type "BaseException")) (some true) && (PySem.W.hasDictIn K (He.ga K x) && (He.eqO (PySem.W.findIn K (.ref (He.ga K x)) "__class__") (some (some (.builtin "object.__class__"))) &&
      (He.eqO (PySem.W.specialIn K (.builtin "object.__class__") "__get__") (some (some (.builtin "getset_descriptor.__get__"))) && (dO (PySem.W.takesIn K (.builtin "object.__class__")) (some true) && dO (PySem.W.mroIn K (He.ga K x) (.type "object")) (some true)))))))
  | .kit x y b => dO (PySem.W.kitOne K (.ref (He.ga K x)) (.ref (He.ga K y))) (some b)
  | .kiT x n b => dO (PySem.W.kitOne K (.ref (He.ga K x)) (.type n)) (some b)
  | .kin x ys b => dO (PySem.W.kitAny K (.ref (He.ga K x)) (ys.map fun y => .ref (He.ga K y))) (some b)
  | .tab d tbl miss => (tbl.all fun p => match PySem.W.nsIn K (He.ga K d) p.1 with
    | some (some u) => entB K p.2 u
    | _ => false) && miss.all fun z => He.eqO (PySem.W.nsIn K (He.ga K d) z) (some none)
theorem exi_ok {K : PySem.W.Frag} {x : Str} (c : (Xa.exi x).ok K = true) : ExcC K (He.ga K x) := by
  obtain ⟨c1, c⟩ := He.ba c
  obtain ⟨c2, c⟩ := He.ba c
  obtain ⟨c3, c⟩ := He.ba c
  obtain ⟨c4, c⟩ := He.ba c
  obtain ⟨c5, c⟩ := He.ba c
  obtain ⟨c6, c⟩ := He.ba c
  obtain ⟨c7, c8⟩ := He.ba c
  exact ⟨He.eqO_ok c1, He.eqO_ok c2, of_decide_eq_true c3, c4, He.eqO_ok c5, He.eqO_ok c6, of_decide_eq_true c7, of_decide_eq_true c8⟩
theorem leaf_ok {C : KM} {t : T} {u : Value} (h : leafB t u = true) : ∃ v, RelV v u ∧ ∀ G, Is C G t v := by
  cases t with
  | str x => cases u with
    | str y tk =>
      obtain rfl : x = y := of_decide_eq_true h
      exact ⟨.str x, ⟨tk, rfl⟩, fun G => Is.strI⟩
    | _ => cases h
  | int x => cases u with
    | int y tk =>
      obtain rfl : x = y := of_decide_eq_true h
      exact ⟨.int x, ⟨tk, rfl⟩, fun G => Is.intI⟩
    | _ => cases h
  | _ => cases h
theorem leafs_ok {C : KM} : ∀ {ts : List T} {us : List Value}, leafs ts us = true → ∃ vs, Vals vs us ∧ ∀ G, IsL C G ts vs
  | [], [], _ => ⟨[], .nil, fun _ => IsL.nil⟩
  | [], _ :: _, h => by cases h
  | _ :: _, [], h => by cases h
  | t :: ts, u :: us, h => by
    obtain ⟨h1, h2⟩ := He.ba h
    obtain ⟨v, r, i⟩ := leaf_ok (C := C) h1
    obtain ⟨vs, rs, is⟩ := leafs_ok (C := C) h2
    exact ⟨v :: vs, .cons r rs, fun G => IsL.cons (i G) (is G)⟩
theorem ent_ok {C : KM} {t : T} {u : Value} (h : entB C.K t u = true) : ∃ v, RelV v u ∧ ∀ G, Is C G t v := by
  unfold entB at h
  split at h
  · rename_i l a
    split at h
    · rename_i c od its n sl q
      obtain ⟨h1, h2⟩ := He.ba h
      obtain ⟨h3, h4⟩ := He.ba h2
      obtain ⟨vs, r, i⟩ := leafs_ok (C := C) h4
      exact ⟨.ref a, rfl, fun G => Is.tupI (.inr ⟨_, its, n, q, congrArg Value.type (of_decide_eq_true h1), rfl, of_decide_eq_true h3, r⟩) (i G)⟩
    · cases h
  · exact leaf_ok h
theorem lookup_in {z : Str} {t : T} : ∀ {tbl : List (Str × T)}, tbl.lookup z = some t → (z, t) ∈ tbl
  | [], e => by cases e
  | (k, u) :: r, e => by
    by_cases q : z = k
    · subst q
      rw [List.lookup_cons_self] at e
      rw [Option.some.inj e]
      exact List.mem_cons_self
    · have q' : (z == k) = false := by
        cases hq : (z == k) with
        | false => rfl
        | true => exact absurd (eq_of_beq hq) q
      rw [List.lookup_cons, q'] at e
      exact List.mem_cons_of_mem _ (lookup_in e)
theorem gd_of {C : KM} {w : World} {h : Heap} {x : Str} {tbl : List (Str × T)} {miss : List Str} (X : C.K.In h) (G : h.Ns mainGlobals C.mg) (hg : (He.Fa.glo x).ok C.K = true) (kd : ∃ es n, KDict C.K w (He.ga C.K x) es n)
    (ht : (Xa.tab x tbl miss).ok C.K = true) : GD C w x tbl miss := by
  obtain ⟨ht, hm⟩ := He.ba ht
  have ht := List.all_eq_true.mp ht
  have hm := List.all_eq_true.mp hm
  refine ⟨_, He.glo_ok X G hg, kd, fun z t e => ?_, fun z hz => He.eqO_ok (hm z hz)⟩
  have m : (z, t) ∈ tbl := lookup_in e
  have c := ht _ m
  have c2 : (match PySem.W.nsIn C.K (He.ga C.K x) z with
    | some (some u) => entB C.K t u
    | _ => false) = true := c
  cases q : PySem.W.nsIn C.K (He.ga C.K x) z with
  | none => rw [q] at c2; cases c2
  | some r =>
    rw [q] at c2
    cases r with
    | none => cases c2
    | some u =>
      obtain ⟨v, r, i⟩ := ent_ok (C := C) c2
      exact ⟨u, v, rfl, r, i⟩
/-- all that the head looks at -/
def exAll (xs : List Xa) (K : PySem.W.Frag) : Bool := xs.all fun x => x.ok K
theorem ex_at {xs : List Xa} {K : PySem.W.Frag} (h : exAll xs K = true) (i : Nat) (x : Xa) (m : xs[i]? = some x) : x.ok K = true := List.all_eq_true.mp h x (List.mem_of_getElem? m)
/-- isinstance of the exception: each class raised, by the table -/
theorem fk_of {K : PySem.W.Frag} {h : Heap} {mg : Str → Option Value} (X : K.In h) (G : h.Ns mainGlobals mg) {c : Str} {sub : Str → Option Bool} (hc : (He.Fa.glo c).ok K = true) (ha : ∀ y b, sub y = some b → (He.Fa.glo y).ok K = true ∧ (Xa.exi y).ok K = true ∧ (Xa.kit y c b).ok K = true) :
    ∀ Dc, mg c = some (.ref Dc) → ∀ y b D, sub y = some b → mg y = some (.ref D) → ExcC K D ∧ PySem.W.kitOne K (.ref D) (.ref Dc) = some b := fun Dc e y b D s m => by
  obtain ⟨h1, h2, h3⟩ := ha y b s
  rw [He.glo_ok X G hc] at e
  rw [He.glo_ok X G h1] at m
  cases e
  cases m
  exact ⟨exi_ok h2, of_decide_eq_true h3⟩
theorem fkT_of {K : PySem.W.Frag} {h : Heap} {mg : Str → Option Value} (X : K.In h) (G : h.Ns mainGlobals mg) {n : String} {sub : Str → Option Bool} (ha : ∀ y b, sub y = some b → (He.Fa.glo y).ok K = true ∧ (Xa.exi y).ok K = true ∧ (Xa.kiT y n b).ok K = true) :
    ∀ y b D, sub y = some b → mg y = some (.ref D) → ExcC K D ∧ PySem.W.kitOne K (.ref D) (.type n) = some b := fun y b D s m => by
  obtain ⟨h1, h2, h3⟩ := ha y b s
  rw [He.glo_ok X G h1] at m
  cases m
  exact ⟨exi_ok h2, of_decide_eq_true h3⟩
theorem fx_of {K : PySem.W.Frag} {h : Heap} {mg : Str → Option Value} (X : K.In h) (G : h.Ns mainGlobals mg) {c : Str} {sub : Str → Option Bool} (hc : (He.Fa.glo c).ok K = true) (ha : ∀ y b, sub y = some b → (He.Fa.glo y).ok K = true ∧ (He.Fa.exm y c b).ok K = true) :
    ∀ Dc, mg c = some (.ref Dc) → ∀ y b D, sub y = some b → mg y = some (.ref D) → PySem.W.exmOne K (.ref D) (.ref Dc) = some b := fun Dc e y b D s m => by
  obtain ⟨h1, h3⟩ := ha y b s
  rw [He.glo_ok X G hc] at e
  rw [He.glo_ok X G h1] at m
  cases e
  cases m
  exact of_decide_eq_true h3
end VS

namespace VS
open PySem PySem.Spec PyProof.Rows L2 Evl

/-! ### isinstance(e, (C, D, ..)): a tuple of the text's classes -/
inductive NmD (X : Cx) : List Expr → List Str → List Addr → Prop
  | nil : NmD X [] [] []
  | cons {x : Str} {p : Pos} {es : List Expr} {xs : List Str} {Ds : List Addr} {D : Addr} : X.mg x = some (.ref D) → Gl X x → (x == ("__debug__" : Str)) = false →
      starEach (.Name x p :: es) X.env = (false, eval (.Name x p) X.env) :: starEach es X.env → NmD X es xs Ds → NmD X (.Name x p :: es) (x :: xs) (D :: Ds)
def NmX (X : Cx) (es : List Expr) (xs : List Str) : Prop := ∃ Ds, NmD X es xs Ds
section
variable {rm : Rm} {bi : List (Nat × Addr)} {X : Cx} {H0 G0 : Hp} {w0 : World} {a : Addr} {oe : Obj} {cls : Value} {d : Option Addr} {pn : List (Addr × Obj)} {i : Nat} {n x : Str} {pe p pos pc : Pos} {sub : Str → Option Bool} {es : List Expr} {xs : List Str}
theorem nm_nil : NmX X [] [] := ⟨[], .nil⟩
theorem nm_cons (hx : CL X.mg x) (hn : NmX X es xs) (hg : Gl X x := by rfl) (hdb : (x == ("__debug__" : Str)) = false := by decide) (he : starEach (.Name x p :: es) X.env = (false, eval (.Name x p) X.env) :: starEach es X.env := by rfl) : NmX X (.Name x p :: es) (x :: xs) := by
  obtain ⟨D, hx⟩ := hx
  obtain ⟨Ds, hn⟩ := hn
  exact ⟨D :: Ds, .cons hx hg hdb he hn⟩
theorem NmD.pa {Ds : List Addr} (h : NmD X es xs Ds) : ∃ ta : TA, PA (X.suite a ((a, oe) :: pn)) es ta ∧ ∀ σ H Q, Q (Ds.map V.ref) H → ta σ H Q := by
  induction h with
  | nil => exact ⟨tNil, pa_nil, fun σ H Q q => q⟩
  | cons hm hg hdb he _ ih =>
    obtain ⟨ta, h1, h2⟩ := ih
    exact ⟨_, pa_cons (X := X.suite a ((a, oe) :: pn)) (pe_glob (X := X.suite a ((a, oe) :: pn)) (v := .ref _) hg hm rfl hdb) h1 he, fun σ H Q q => h2 σ H _ q⟩
theorem NmD.clsV {Ds : List Addr} (h : NmD X es xs Ds) : Paired ClsV (Ds.map V.ref) (Ds.map Value.ref) := by
  induction h with
  | nil => exact .nil
  | cons _ _ _ _ _ ih => exact .cons (.own _) ih
theorem NmD.len {Ds : List Addr} (h : NmD X es xs Ds) : Ds.length = xs.length := by
  induction h with
  | nil => rfl
  | cons _ _ _ _ _ ih => rw [List.length_cons, List.length_cons, ih]
theorem NmD.mgs {Ds : List Addr} (h : NmD X es xs Ds) : Paired (fun x D => X.mg x = some (.ref D)) xs Ds := by
  induction h with
  | nil => exact .nil
  | cons hm _ _ _ _ ih => exact .cons hm ih
theorem isEs_own {x1 : Nat} (hz : Zc cls d oe) (hf : ∃ vs, oe.data = .fields vs) (hN : X.N[i]? = some n) (hv : Vis X.env.scope n) (hm : X.mg "isinstance" = none) (hn : NmX X es xs) (hl : xs.length ≤ 1000)
    (hF : ∀ Ds : List Addr, Paired (fun x D => X.mg x = some (.ref D)) xs Ds → ∀ y b D, sub y = some b → X.mg y = some (.ref D) → ExcC X.K D ∧ PySem.W.kitAny X.K (.ref D) (Ds.map Value.ref) = some b)
    (hg : Gl X "isinstance" := by rfl) (hd1 : (n == ("__debug__" : Str)) = false := by decide) (hd2 : (n == ("__classdict__" : Str)) = false := by decide)
    (hb : bootBuiltins "isinstance" = some (.builtin "isinstance") := by decide +kernel) (he : starEach [.Name n pe, .Tuple es x1 pc] X.env = (false, eval (.Name n pe) X.env) :: starEach [.Tuple es x1 pc] X.env := by rfl)
    (he2 : starEach [.Tuple es x1 pc] X.env = (false, eval (.Tuple es x1 pc) X.env) :: starEach [] X.env := by rfl) (hpl : (backTo pos (starEach [.Tuple es x1 pc] X.env)).any (·.1) = false := by rfl) :
    DE (X.suite a ((a, oe) :: pn)) ⟨H0, G0, some (a, cls, d), rm, w0, bi⟩ W0 .E (.Call (.Name "isinstance" p) [.Name n pe, .Tuple es x1 pc] [] pos) (eIsE i sub) := by
  obtain ⟨Ds, h⟩ := hn
  obtain ⟨ta, h1, h2⟩ := NmD.pa (a := a) (oe := oe) (pn := pn) h
  exact d_isEs hz hf hN hv hg hm h1 h2 (by rw [List.length_map, h.len]; exact hl) h.clsV (hF Ds h.mgs) hd1 hd2 hb he he2 hpl
end
/-! ### a def that a value names, by a table -/
def tblOf (l : List (Str × Nat × Mir)) : Str → Option (Nat × Mir) := fun x => l.lookup x
def CV (X : Cx) (l : List (Str × Nat × Mir)) : Prop := ∀ x n g, tblOf l x = some (n, g) → ∃ (f : Addr) (fd : FuncData) (ps : List Str) (k : Nat), X.mg x = some (.ref f) ∧ PySem.W.keepIn X.K (.ref f) = true ∧ FnOk X.prog X.w X.K X.mg X.base (L2.CX X.prog X.w) k f fd ps (spD (km X) n g) ∧ Binds X.K fd ps [] ∧ Room k X.A
theorem cv_nil {X : Cx} : CV X [] := fun x n g e => by cases e
theorem cv_cons {X : Cx} {k n : Nat} {x : Str} {m : Mir} {l : List (Str × Nat × Mir)} (O : Ok X.prog X.w X.K X.mg X.base k x n m) (hr : Room k X.A) (h : CV X l) : CV X ((x, n, m) :: l) := fun y n' g e => by
  by_cases q : y = x
  · subst q
    unfold tblOf at e
    rw [List.lookup_cons_self] at e
    cases e
    obtain ⟨f, fd, ps, a, b, c, d⟩ := O.ex
    exact ⟨f, fd, ps, k, a, b, c, d, hr⟩
  · have q' : (y == x) = false := by
      cases hq : (y == x) with
      | false => rfl
      | true => exact absurd (eq_of_beq hq) q
    unfold tblOf at e
    rw [List.lookup_cons, q'] at e
    exact h y n' g e
theorem asDG {X : Cx} {e : Expr} (g : Tg) (h : PG X e (tG X.K g)) : DG X e g := h
theorem paired_ga {K : PySem.W.Frag} {h : Heap} {mg : Str → Option Value} (X : K.In h) (G : h.Ns mainGlobals mg) : ∀ {xs : List Str} {Ds : List Addr}, (∀ x ∈ xs, (He.Fa.glo x).ok K = true) → Paired (fun x D => mg x = some (.ref D)) xs Ds → Ds = xs.map (He.ga K)
  | _, _, _, .nil => rfl
  | x :: xs, D :: Ds, hx, .cons e r => by
    rw [He.glo_ok X G (hx x List.mem_cons_self)] at e
    cases e
    rw [List.map_cons, ← paired_ga X G (fun y m => hx y (List.mem_cons_of_mem _ m)) r]
theorem fkN_of {K : PySem.W.Frag} {h : Heap} {mg : Str → Option Value} (X : K.In h) (G : h.Ns mainGlobals mg) {xs : List Str} {sub : Str → Option Bool} (hc : ∀ x ∈ xs, (He.Fa.glo x).ok K = true) (ha : ∀ y b, sub y = some b → (He.Fa.glo y).ok K = true ∧ (Xa.exi y).ok K = true ∧ (Xa.kin y xs b).ok K = true) :
    ∀ Ds : List Addr, Paired (fun x D => mg x = some (.ref D)) xs Ds → ∀ y b D, sub y = some b → mg y = some (.ref D) → ExcC K D ∧ PySem.W.kitAny K (.ref D) (Ds.map Value.ref) = some b := fun Ds e y b D s m => by
  obtain ⟨h1, h2, h3⟩ := ha y b s
  rw [paired_ga X G hc e]
  rw [He.glo_ok X G h1] at m
  cases m
  refine ⟨exi_ok h2, ?_⟩
  rw [List.map_map]
  exact of_decide_eq_true h3
end VS

namespace VS
open PySem PySem.Spec PyProof.Rows L2 Evl
/-- {} -/
theorem d_dic0 {X : Cx} {B : BS} {W : WX} {pos : Pos} : DE X B W .N (.Dict [] [] pos) (eC (.dic [] [])) := PE.imp pe_dnewK fun σ H Q ⟨ρ, G, s, p⟩ => fun d hd =>
  p _ _ G (Gr.own s.exGH hd) ⟨d, _, rfl, hd, upd_same, ex_none s.exGH hd, [], rfl, IsL.nil, IsL.nil⟩
/-- a law's end, what it may let out told by the world -/
theorem walk_w {l : PySem.W.OpenLaw} {n k : Nat} {q : Program} {loose : List Str} {XP : (Str → Option Value) → Heap → Prop} {YP : World → Heap → Prop} {d : DefRec} {CX : World → CXT} {x : Str}
    (hn : l.most = some n) (hn2 : n ≤ sizeLine) (hdf : d.params.defaults = []) (hr : Room k callerA)
    (F : ∀ (w : World) (mg : Str → Option Value) (fa : Addr) (h : Heap), YP w h → h.Ns mainGlobals mg → mg d.name = some (.ref fa) →
      ∃ (K : PySem.W.Frag) (fd : FuncData) (sp : Sp), K.In h ∧ (∀ (s : Shared) (u : Value), BindsTo s fd ⟨[u], []⟩ [(x, u)]) ∧
        (∀ (H : Hp) (a : Addr) (ns : List Int), ns.length ≤ n → Only H → SqL K H a (ns.map V.int) → sp [.ref a] H (fun v _ => v = .bl true) fun _ _ _ => False) ∧
        ∀ base : Heap, K.In base → base.Ns mainGlobals mg → FnOk l.prog w K mg base (CX w) k fa fd [x] sp)
    (hCX : ∀ (w : World) (H : Hp) (s : Shared) (e : Value) (s' : Shared), CX w [] H s (fun _ _ _ => False) e s' → False) :
    PySem.W.WalkO q loose XP YP l.row.toRowW d [] (fun f vs => PySem.call f vs) := by
  refine Att.attach_call hn hdf fun w s₀ s₁ mg mb fa o pm cd doc a vs ns G Y ho hd hcd hmg hobj hints hlen hg => ?_
  obtain ⟨K, fd, sp, KX, hb, hsp, hF⟩ := F w mg fa _ Y G.T.g hmg
  exact law_call KX G.T.g G.T.b G.T.builtins G.T.nolimit hg hobj hints (Nat.le_trans hlen hn2) hr hF hb (fun H hO hS => hsp H a ns hlen hO hS) fun H e s' => hCX w H s₁ e s'
end VS

namespace VS
open PySem PySem.Spec PyProof.Rows L2 Evl
theorem okD_str (n : Nat) (x : Str) : okD n (.str x) = x.cps.all (· < 0x110000) := by cases n <;> unfold okD <;> rfl
theorem okD_int (n : Nat) (x : Int) : okD n (.int x) = true := by cases n <;> unfold okD <;> rfl
theorem okD_non (n : Nat) : okD n .non = true := by cases n <;> unfold okD <;> rfl
theorem okD_bl (n : Nat) (b : Bool) : okD n (.bl b) = true := by cases n <;> unfold okD <;> rfl
theorem okD_tup (n : Nat) (l : List T) : okD (n + 1) (.tup l) = okDs n l := by conv => lhs; unfold okD
theorem okD_lst (n : Nat) (l : List T) : okD (n + 1) (.lst l) = okDs n l := by conv => lhs; unfold okD
theorem okDs_nil (n : Nat) : okDs n [] = true := by cases n <;> unfold okDs <;> rfl
theorem okDs_cons (n : Nat) (t : T) (l : List T) : okDs n (t :: l) = (okD n t && okDs n l) := by conv => lhs; unfold okDs
theorem eqT_str (x y : Str) : eqT (.str x) (.str y) = (x == y) := by unfold eqT; rfl
theorem eqT_int (x y : Int) : eqT (.int x) (.int y) = (x == y) := by unfold eqT; rfl
theorem eqT_tup (x y : List T) : eqT (.tup x) (.tup y) = eqTs x y := by conv => lhs; unfold eqT
theorem eqT_lst (x y : List T) : eqT (.lst x) (.lst y) = eqTs x y := by conv => lhs; unfold eqT
theorem eqT_non : eqT .non .non = true := by unfold eqT; rfl
theorem eqTs_nil : eqTs [] [] = true := by unfold eqTs; rfl
theorem eqTs_cons (x y : T) (xs ys : List T) : eqTs (x :: xs) (y :: ys) = (eqT x y && eqTs xs ys) := by conv => lhs; unfold eqTs
theorem gEq_int (x y : Int) : gEq (.int x) (.int y) = some (.bl (decide (x = y))) := by
  unfold gEq
  rw [okD_int, okD_int, eqT_int]
  by_cases h : x = y <;> simp [h]
theorem gNe_int (x y : Int) : gNe (.int x) (.int y) = some (.bl (!decide (x = y))) := by
  unfold gNe
  rw [okD_int, okD_int, eqT_int]
  by_cases h : x = y <;> simp [h]
theorem o_put (n : Nat) : okD n (.str "put") = true := by rw [okD_str]; decide +kernel
theorem o_more (n : Nat) : okD n (.str "more") = true := by rw [okD_str]; decide +kernel
theorem o_copy (n : Nat) : okD n (.str "copy") = true := by rw [okD_str]; decide +kernel
theorem o_tell (n : Nat) : okD n (.str "tell") = true := by rw [okD_str]; decide +kernel
theorem o_go (n : Nat) : okD n (.str "go") = true := by rw [okD_str]; decide +kernel
theorem o_ask (n : Nat) : okD n (.str "ask") = true := by rw [okD_str]; decide +kernel
theorem o_stop (n : Nat) : okD n (.str "stop") = true := by rw [okD_str]; decide +kernel
theorem e_put_put : eqT (.str "put") (.str "put") = true := by rw [eqT_str]; decide +kernel
theorem q_put_put : gEq (.str "put") (.str "put") = some (.bl true) := by unfold gEq; rw [o_put, e_put_put]; rfl
theorem e_put_more : eqT (.str "put") (.str "more") = false := by rw [eqT_str]; decide +kernel
theorem q_put_more : gEq (.str "put") (.str "more") = some (.bl false) := by unfold gEq; rw [o_put, o_more, e_put_more]; rfl
theorem e_put_copy : eqT (.str "put") (.str "copy") = false := by rw [eqT_str]; decide +kernel
theorem q_put_copy : gEq (.str "put") (.str "copy") = some (.bl false) := by unfold gEq; rw [o_put, o_copy, e_put_copy]; rfl
theorem e_put_tell : eqT (.str "put") (.str "tell") = false := by rw [eqT_str]; decide +kernel
theorem q_put_tell : gEq (.str "put") (.str "tell") = some (.bl false) := by unfold gEq; rw [o_put, o_tell, e_put_tell]; rfl
theorem e_put_go : eqT (.str "put") (.str "go") = false := by rw [eqT_str]; decide +kernel
theorem q_put_go : gEq (.str "put") (.str "go") = some (.bl false) := by unfold gEq; rw [o_put, o_go, e_put_go]; rfl
theorem e_put_ask : eqT (.str "put") (.str "ask") = false := by rw [eqT_str]; decide +kernel
theorem q_put_ask : gEq (.str "put") (.str "ask") = some (.bl false) := by unfold gEq; rw [o_put, o_ask, e_put_ask]; rfl
theorem e_put_stop : eqT (.str "put") (.str "stop") = false := by rw [eqT_str]; decide +kernel
theorem q_put_stop : gEq (.str "put") (.str "stop") = some (.bl false) := by unfold gEq; rw [o_put, o_stop, e_put_stop]; rfl
theorem e_more_put : eqT (.str "more") (.str "put") = false := by rw [eqT_str]; decide +kernel
theorem q_more_put : gEq (.str "more") (.str "put") = some (.bl false) := by unfold gEq; rw [o_more, o_put, e_more_put]; rfl
theorem e_more_more : eqT (.str "more") (.str "more") = true := by rw [eqT_str]; decide +kernel
theorem q_more_more : gEq (.str "more") (.str "more") = some (.bl true) := by unfold gEq; rw [o_more, e_more_more]; rfl
theorem e_more_copy : eqT (.str "more") (.str "copy") = false := by rw [eqT_str]; decide +kernel
theorem q_more_copy : gEq (.str "more") (.str "copy") = some (.bl false) := by unfold gEq; rw [o_more, o_copy, e_more_copy]; rfl
theorem e_more_tell : eqT (.str "more") (.str "tell") = false := by rw [eqT_str]; decide +kernel
theorem q_more_tell : gEq (.str "more") (.str "tell") = some (.bl false) := by unfold gEq; rw [o_more, o_tell, e_more_tell]; rfl
theorem e_more_go : eqT (.str "more") (.str "go") = false := by rw [eqT_str]; decide +kernel
theorem q_more_go : gEq (.str "more") (.str "go") = some (.bl false) := by unfold gEq; rw [o_more, o_go, e_more_go]; rfl
theorem e_more_ask : eqT (.str "more") (.str "ask") = false := by rw [eqT_str]; decide +kernel
theorem q_more_ask : gEq (.str "more") (.str "ask") = some (.bl false) := by unfold gEq; rw [o_more, o_ask, e_more_ask]; rfl
theorem e_more_stop : eqT (.str "more") (.str "stop") = false := by rw [eqT_str]; decide +kernel
theorem q_more_stop : gEq (.str "more") (.str "stop") = some (.bl false) := by unfold gEq; rw [o_more, o_stop, e_more_stop]; rfl
theorem e_copy_put : eqT (.str "copy") (.str "put") = false := by rw [eqT_str]; decide +kernel
theorem q_copy_put : gEq (.str "copy") (.str "put") = some (.bl false) := by unfold gEq; rw [o_copy, o_put, e_copy_put]; rfl
theorem e_copy_more : eqT (.str "copy") (.str "more") = false := by rw [eqT_str]; decide +kernel
theorem q_copy_more : gEq (.str "copy") (.str "more") = some (.bl false) := by unfold gEq; rw [o_copy, o_more, e_copy_more]; rfl
theorem e_copy_copy : eqT (.str "copy") (.str "copy") = true := by rw [eqT_str]; decide +kernel
theorem q_copy_copy : gEq (.str "copy") (.str "copy") = some (.bl true) := by unfold gEq; rw [o_copy, e_copy_copy]; rfl
theorem e_copy_tell : eqT (.str "copy") (.str "tell") = false := by rw [eqT_str]; decide +kernel
theorem q_copy_tell : gEq (.str "copy") (.str "tell") = some (.bl false) := by unfold gEq; rw [o_copy, o_tell, e_copy_tell]; rfl
theorem e_copy_go : eqT (.str "copy") (.str "go") = false := by rw [eqT_str]; decide +kernel
theorem q_copy_go : gEq (.str "copy") (.str "go") = some (.bl false) := by unfold gEq; rw [o_copy, o_go, e_copy_go]; rfl
theorem e_copy_ask : eqT (.str "copy") (.str "ask") = false := by rw [eqT_str]; decide +kernel
theorem q_copy_ask : gEq (.str "copy") (.str "ask") = some (.bl false) := by unfold gEq; rw [o_copy, o_ask, e_copy_ask]; rfl
theorem e_copy_stop : eqT (.str "copy") (.str "stop") = false := by rw [eqT_str]; decide +kernel
theorem q_copy_stop : gEq (.str "copy") (.str "stop") = some (.bl false) := by unfold gEq; rw [o_copy, o_stop, e_copy_stop]; rfl
theorem e_tell_put : eqT (.str "tell") (.str "put") = false := by rw [eqT_str]; decide +kernel
theorem q_tell_put : gEq (.str "tell") (.str "put") = some (.bl false) := by unfold gEq; rw [o_tell, o_put, e_tell_put]; rfl
theorem e_tell_more : eqT (.str "tell") (.str "more") = false := by rw [eqT_str]; decide +kernel
theorem q_tell_more : gEq (.str "tell") (.str "more") = some (.bl false) := by unfold gEq; rw [o_tell, o_more, e_tell_more]; rfl
theorem e_tell_copy : eqT (.str "tell") (.str "copy") = false := by rw [eqT_str]; decide +kernel
theorem q_tell_copy : gEq (.str "tell") (.str "copy") = some (.bl false) := by unfold gEq; rw [o_tell, o_copy, e_tell_copy]; rfl
theorem e_tell_tell : eqT (.str "tell") (.str "tell") = true := by rw [eqT_str]; decide +kernel
theorem q_tell_tell : gEq (.str "tell") (.str "tell") = some (.bl true) := by unfold gEq; rw [o_tell, e_tell_tell]; rfl
theorem e_tell_go : eqT (.str "tell") (.str "go") = false := by rw [eqT_str]; decide +kernel
theorem q_tell_go : gEq (.str "tell") (.str "go") = some (.bl false) := by unfold gEq; rw [o_tell, o_go, e_tell_go]; rfl
theorem e_tell_ask : eqT (.str "tell") (.str "ask") = false := by rw [eqT_str]; decide +kernel
theorem q_tell_ask : gEq (.str "tell") (.str "ask") = some (.bl false) := by unfold gEq; rw [o_tell, o_ask, e_tell_ask]; rfl
theorem e_tell_stop : eqT (.str "tell") (.str "stop") = false := by rw [eqT_str]; decide +kernel
theorem q_tell_stop : gEq (.str "tell") (.str "stop") = some (.bl false) := by unfold gEq; rw [o_tell, o_stop, e_tell_stop]; rfl
theorem e_go_put : eqT (.str "go") (.str "put") = false := by rw [eqT_str]; decide +kernel
theorem q_go_put : gEq (.str "go") (.str "put") = some (.bl false) := by unfold gEq; rw [o_go, o_put, e_go_put]; rfl
theorem e_go_more : eqT (.str "go") (.str "more") = false := by rw [eqT_str]; decide +kernel
theorem q_go_more : gEq (.str "go") (.str "more") = some (.bl false) := by unfold gEq; rw [o_go, o_more, e_go_more]; rfl
theorem e_go_copy : eqT (.str "go") (.str "copy") = false := by rw [eqT_str]; decide +kernel
theorem q_go_copy : gEq (.str "go") (.str "copy") = some (.bl false) := by unfold gEq; rw [o_go, o_copy, e_go_copy]; rfl
theorem e_go_tell : eqT (.str "go") (.str "tell") = false := by rw [eqT_str]; decide +kernel
theorem q_go_tell : gEq (.str "go") (.str "tell") = some (.bl false) := by unfold gEq; rw [o_go, o_tell, e_go_tell]; rfl
theorem e_go_go : eqT (.str "go") (.str "go") = true := by rw [eqT_str]; decide +kernel
theorem q_go_go : gEq (.str "go") (.str "go") = some (.bl true) := by unfold gEq; rw [o_go, e_go_go]; rfl
theorem e_go_ask : eqT (.str "go") (.str "ask") = false := by rw [eqT_str]; decide +kernel
theorem q_go_ask : gEq (.str "go") (.str "ask") = some (.bl false) := by unfold gEq; rw [o_go, o_ask, e_go_ask]; rfl
theorem e_go_stop : eqT (.str "go") (.str "stop") = false := by rw [eqT_str]; decide +kernel
theorem q_go_stop : gEq (.str "go") (.str "stop") = some (.bl false) := by unfold gEq; rw [o_go, o_stop, e_go_stop]; rfl
theorem e_ask_put : eqT (.str "ask") (.str "put") = false := by rw [eqT_str]; decide +kernel
theorem q_ask_put : gEq (.str "ask") (.str "put") = some (.bl false) := by unfold gEq; rw [o_ask, o_put, e_ask_put]; rfl
theorem e_ask_more : eqT (.str "ask") (.str "more") = false := by rw [eqT_str]; decide +kernel
theorem q_ask_more : gEq (.str "ask") (.str "more") = some (.bl false) := by unfold gEq; rw [o_ask, o_more, e_ask_more]; rfl
theorem e_ask_copy : eqT (.str "ask") (.str "copy") = false := by rw [eqT_str]; decide +kernel
theorem q_ask_copy : gEq (.str "ask") (.str "copy") = some (.bl false) := by unfold gEq; rw [o_ask, o_copy, e_ask_copy]; rfl
theorem e_ask_tell : eqT (.str "ask") (.str "tell") = false := by rw [eqT_str]; decide +kernel
theorem q_ask_tell : gEq (.str "ask") (.str "tell") = some (.bl false) := by unfold gEq; rw [o_ask, o_tell, e_ask_tell]; rfl
theorem e_ask_go : eqT (.str "ask") (.str "go") = false := by rw [eqT_str]; decide +kernel
theorem q_ask_go : gEq (.str "ask") (.str "go") = some (.bl false) := by unfold gEq; rw [o_ask, o_go, e_ask_go]; rfl
theorem e_ask_ask : eqT (.str "ask") (.str "ask") = true := by rw [eqT_str]; decide +kernel
theorem q_ask_ask : gEq (.str "ask") (.str "ask") = some (.bl true) := by unfold gEq; rw [o_ask, e_ask_ask]; rfl
theorem e_ask_stop : eqT (.str "ask") (.str "stop") = false := by rw [eqT_str]; decide +kernel
theorem q_ask_stop : gEq (.str "ask") (.str "stop") = some (.bl false) := by unfold gEq; rw [o_ask, o_stop, e_ask_stop]; rfl
theorem e_stop_put : eqT (.str "stop") (.str "put") = false := by rw [eqT_str]; decide +kernel
theorem q_stop_put : gEq (.str "stop") (.str "put") = some (.bl false) := by unfold gEq; rw [o_stop, o_put, e_stop_put]; rfl
theorem e_stop_more : eqT (.str "stop") (.str "more") = false := by rw [eqT_str]; decide +kernel
theorem q_stop_more : gEq (.str "stop") (.str "more") = some (.bl false) := by unfold gEq; rw [o_stop, o_more, e_stop_more]; rfl
theorem e_stop_copy : eqT (.str "stop") (.str "copy") = false := by rw [eqT_str]; decide +kernel
theorem q_stop_copy : gEq (.str "stop") (.str "copy") = some (.bl false) := by unfold gEq; rw [o_stop, o_copy, e_stop_copy]; rfl
theorem e_stop_tell : eqT (.str "stop") (.str "tell") = false := by rw [eqT_str]; decide +kernel
theorem q_stop_tell : gEq (.str "stop") (.str "tell") = some (.bl false) := by unfold gEq; rw [o_stop, o_tell, e_stop_tell]; rfl
theorem e_stop_go : eqT (.str "stop") (.str "go") = false := by rw [eqT_str]; decide +kernel
theorem q_stop_go : gEq (.str "stop") (.str "go") = some (.bl false) := by unfold gEq; rw [o_stop, o_go, e_stop_go]; rfl
theorem e_stop_ask : eqT (.str "stop") (.str "ask") = false := by rw [eqT_str]; decide +kernel
theorem q_stop_ask : gEq (.str "stop") (.str "ask") = some (.bl false) := by unfold gEq; rw [o_stop, o_ask, e_stop_ask]; rfl
theorem e_stop_stop : eqT (.str "stop") (.str "stop") = true := by rw [eqT_str]; decide +kernel
theorem q_stop_stop : gEq (.str "stop") (.str "stop") = some (.bl true) := by unfold gEq; rw [o_stop, e_stop_stop]; rfl
mutual
theorem eqT_refl : ∀ (n : Nat) (t : T), okD n t = true → eqT t t = true
  | n, .non, _ => eqT_non
  | n, .bl b, _ => by unfold eqT; exact beq_self_eq_true b
  | n, .int i, _ => by unfold eqT; exact beq_self_eq_true i
  | n, .str x, _ => by unfold eqT; exact beq_self_eq_true x
  | n + 1, .tup l, h => by rw [eqT_tup]; rw [okD_tup] at h; exact eqTs_refl n l h
  | n + 1, .lst l, h => by rw [eqT_lst]; rw [okD_lst] at h; exact eqTs_refl n l h
  | 0, .tup l, h => by unfold okD at h; cases h
  | 0, .lst l, h => by unfold okD at h; cases h
  | n, .dic a b, h => by cases n <;> unfold okD at h <;> cases h
  | n, .fro a, h => by cases n <;> unfold okD at h <;> cases h
  | n, .fn a, h => by cases n <;> unfold okD at h <;> cases h
  | n, .ty a, h => by cases n <;> unfold okD at h <;> cases h
theorem eqTs_refl : ∀ (n : Nat) (l : List T), okDs n l = true → eqTs l l = true
  | n, [], _ => eqTs_nil
  | n, x :: xs, h => by
    rw [okDs_cons] at h
    have h2 := Bool.and_eq_true_iff.mp h
    rw [eqTs_cons, eqT_refl n x h2.1, eqTs_refl n xs h2.2]
    rfl
end
theorem gEq_refl {t : T} (h : okD 20 t = true) : gEq t t = some (.bl true) := by unfold gEq; rw [h, eqT_refl 20 t h]; rfl
theorem gNe_refl {t : T} (h : okD 20 t = true) : gNe t t = some (.bl false) := by unfold gNe; rw [h, eqT_refl 20 t h]; rfl
/-! ### items -/
theorem ixN_nat (n k : Nat) : ixN n (k : Int) = if k < n then some k else none := by
  unfold ixN
  rw [if_pos (Int.natCast_nonneg k)]
  by_cases h : k < n
  · rw [if_pos (by omega), if_pos h, Int.toNat_natCast]
  · rw [if_neg (by omega), if_neg h]
theorem atI_nat {α : Type} (l : List α) (k : Nat) : atI l (k : Int) = l[k]? := by
  unfold atI
  rw [ixN_nat]
  by_cases h : k < l.length
  · rw [if_pos h]
    rfl
  · rw [if_neg h, List.getElem?_eq_none (by omega)]
    rfl
theorem atI_0 {α : Type} (l : List α) : atI l 0 = l[0]? := atI_nat l 0
theorem atI_1 {α : Type} (l : List α) : atI l 1 = l[1]? := atI_nat l 1
theorem atI_2 {α : Type} (l : List α) : atI l 2 = l[2]? := atI_nat l 2
theorem atI_last {α : Type} (l : List α) : atI l (-1) = l.getLast? := by
  unfold atI ixN
  cases l with
  | nil => rfl
  | cons x xs =>
    rw [if_neg (by decide), if_pos (by rw [List.length_cons]; omega)]
    have e : (-1 + ((x :: xs).length : Int)).toNat = xs.length := by rw [List.length_cons]; omega
    rw [e, List.getLast?_eq_getElem?]
    rfl
theorem gIx_tup (l : List T) (i : Int) : gIx (.tup l) (.int i) = atI l i := rfl
theorem gIx_lst (l : List T) (i : Int) : gIx (.lst l) (.int i) = atI l i := rfl
theorem gIx_fro (l : List Int) (i : Int) : gIx (.fro l) (.int i) = (atI l i).map T.int := rfl
/-! ### comprehensions, loops -/
theorem sApp_ok {i : Nat} {fa : FE} {ρ : Ev'} {l : List T} {t : T} (h : ρ[i]? = some (.ow (.lst l))) (e : fa ρ = .ok t) (hl : l.length < 100000) : sApp i fa ρ = .nx (ρ.set i (.ow (.lst (l ++ [t])))) := by
  unfold sApp
  rw [h]
  simp only [sLift, e]
  rw [if_pos hl]
theorem sSeq_nx {f g : FS} {ρ ρ' : Ev'} (h : f ρ = .nx ρ') : sSeq f g ρ = g ρ' := by
  unfold sSeq
  rw [h]
theorem lt_big {n : Nat} (h : n ≤ 1000) : n < 100000 := Nat.lt_of_le_of_lt h (by decide)
theorem le_big {n : Nat} (h : n ≤ 1000) : n ≤ 100000 := Nat.le_of_lt (lt_big h)
theorem le_big9 {n : Nat} (h : n ≤ 1000) : n ≤ 99999 := Nat.le_trans h (by decide)

theorem compF_map {i : Nat} {fe : FE} {ρ : Ev'} {f : T → T} : ∀ {l : List T}, (∀ t ∈ l, fe (ρ.set i (.sh t)) = .ok (f t)) → compF (.nm i) (eC (.bl true)) fe l ρ = .ok (l.map f)
  | [], _ => rfl
  | t :: l, h => by
    have h1 := h t List.mem_cons_self
    have h2 := compF_map (l := l) fun u m => h u (List.mem_cons_of_mem _ m)
    simp only [compF, setT, eC, h1, h2, Res.bind, List.map_cons]
theorem loop_nx {i : Nat} {body : FS} (I : Nat → Ev' → Prop) : ∀ (l : List T) (n : Nat) (ρ : Ev'), I n ρ → (∀ t ∈ l, ∀ m, n ≤ m → m < n + l.length → ∀ ρ, I m ρ → ∃ ρ1, body (ρ.set i (.sh t)) = .nx ρ1 ∧ I (m + 1) ρ1) → ∃ ρ', loopF (.nm i) body l ρ = .nx ρ' ∧ I (n + l.length) ρ'
  | [], n, ρ, h, _ => ⟨ρ, rfl, h⟩
  | t :: l, n, ρ, h, hb => by
    obtain ⟨ρ1, h1, h2⟩ := hb t List.mem_cons_self n (Nat.le_refl _) (by rw [List.length_cons]; omega) ρ h
    obtain ⟨ρ', h3, h4⟩ := loop_nx I l (n + 1) ρ1 h2 fun u m k k1 k2 => hb u (List.mem_cons_of_mem _ m) k (by omega) (by rw [List.length_cons]; omega)
    refine ⟨ρ', ?_, by rw [List.length_cons]; rw [Nat.add_assoc, Nat.add_comm 1] at h4; exact h4⟩
    unfold loopF
    simp only [setT, h1, h3]
theorem bls_map (l : List T) (f : T → Bool) : bls (l.map fun t => T.bl (f t)) = some (l.map f) := by
  induction l with
  | nil => rfl
  | cons x xs ih => simp only [List.map_cons, bls, ih, Option.map_some]
theorem gAll_map (l : List T) (f : T → Bool) : gAll (.lst (l.map fun t => T.bl (f t))) = some (.bl (l.all f)) := by
  simp only [gAll, bls_map, Option.map_some, List.all_map, Function.comp_def, id]
theorem eAll_comp {fi : FI} {i : Nat} {is : List Nat} {fe : FE} {ρ : Ev'} {l : List T} {f : T → Bool} (hi : fi ρ = .ok l) (hl : l.length ≤ 99999) (h : ∀ t ∈ l, fe ((wipeE ρ is).set i (.sh t)) = .ok (.bl (f t))) :
    eU gAll (eComp fi (.nm i) is (eC (.bl true)) fe) ρ = .ok (.bl (l.all f)) := by
  have e := compF_map (i := i) (fe := fe) (ρ := wipeE ρ is) (f := fun t => .bl (f t)) h
  simp only [eU, eComp, hi, e, Res.bind, List.length_map, hl, if_true, gAll_map, Res.of]
end VS

/-! pure lemmas on the combinators -/
namespace VS
open PySem PySem.Spec PyProof.Rows L2 Evl
theorem eOr_bl {fa fb : FE} {ρ : Ev'} {a b : Bool} (h1 : fa ρ = .ok (.bl a)) (h2 : a = false → fb ρ = .ok (.bl b)) : eOr fa fb ρ = .ok (.bl (a || b)) := by
  unfold eOr
  rw [h1]
  cases a with
  | true => rfl
  | false => exact h2 rfl
theorem eAnd_bl {fa fb : FE} {ρ : Ev'} {a b : Bool} (h1 : fa ρ = .ok (.bl a)) (h2 : a = true → fb ρ = .ok (.bl b)) : eAnd fa fb ρ = .ok (.bl (a && b)) := by
  unfold eAnd
  rw [h1]
  cases a with
  | true => exact h2 rfl
  | false => rfl
theorem eNot_bl {fa : FE} {ρ : Ev'} {a : Bool} (h1 : fa ρ = .ok (.bl a)) : eNot fa ρ = .ok (.bl (!a)) := by
  unfold eNot
  rw [h1]
  rfl
theorem eB_ok {g : T → T → Option T} {fa fb : FE} {ρ : Ev'} {x y z : T} (h1 : fa ρ = .ok x) (h2 : fb ρ = .ok y) (h3 : g x y = some z) : eB g fa fb ρ = .ok z := by
  unfold eB
  rw [h1]
  show (Res.bind (fb ρ) fun y => Res.of (g x y)) = _
  rw [h2]
  show Res.of (g x y) = _
  rw [h3]
  rfl
theorem eU_ok {g : T → Option T} {fa : FE} {ρ : Ev'} {x z : T} (h1 : fa ρ = .ok x) (h3 : g x = some z) : eU g fa ρ = .ok z := by
  unfold eU
  rw [h1]
  show Res.of (g x) = _
  rw [h3]
  rfl
theorem eV_ok {i : Nat} {ρ : Ev'} {t : T} (h : ρ[i]? = some (.sh t)) : eV i ρ = .ok t := by unfold eV; rw [h]
theorem eW_sh {i : Nat} {ρ : Ev'} {t : T} (h : ρ[i]? = some (.sh t)) : eW i ρ = .ok t := by unfold eW; rw [h]
theorem eW_ow {i : Nat} {ρ : Ev'} {t : T} (h : ρ[i]? = some (.ow t)) : eW i ρ = .ok t := by unfold eW; rw [h]
theorem aCons_ok {fa : FE} {fr : FA} {ρ : Ev'} {t : T} {ts : List T} (h1 : fa ρ = .ok t) (h2 : fr ρ = .ok ts) : aCons fa fr ρ = .ok (t :: ts) := by
  unfold aCons
  rw [h1]
  show (Res.bind (fr ρ) fun xs => .ok (t :: xs)) = _
  rw [h2]
  rfl
theorem aNil_ok {ρ : Ev'} : aNil ρ = .ok [] := rfl
theorem eCall_ok {n : Nat} {f : Mir} {fa : FA} {ρ : Ev'} {ts : List T} {r : Res T} (h1 : fa ρ = .ok ts) (h2 : ts.length = n) (h3 : f ts = r) : eCall n f fa ρ = r := by
  unfold eCall
  rw [h1]
  show (if ts.length = n then f ts else .bad) = r
  rw [if_pos h2, h3]
theorem eTup_ok {fa : FA} {ρ : Ev'} {ts : List T} (h1 : fa ρ = .ok ts) (h2 : ts.length ≤ 1000) : eTup fa ρ = .ok (.tup ts) := by
  unfold eTup
  rw [h1]
  show (if ts.length ≤ 100000 then Res.ok (T.tup ts) else .bad) = _
  rw [if_pos (le_big h2)]
theorem eLst_ok {fa : FA} {ρ : Ev'} {ts : List T} (h1 : fa ρ = .ok ts) (h2 : ts.length ≤ 1000) : eLst fa ρ = .ok (.lst ts) := by
  unfold eLst
  rw [h1]
  show (if ts.length ≤ 100000 then Res.ok (T.lst ts) else .bad) = _
  rw [if_pos (le_big h2)]
theorem sSet_ok {i : Nat} {fa : FE} {ρ : Ev'} {t : T} (h : fa ρ = .ok t) : sSet i fa ρ = .nx (ρ.set i (.sh t)) := by unfold sSet sLift; rw [h]
theorem sNew_ok {i : Nat} {fa : FE} {ρ : Ev'} {t : T} (h : fa ρ = .ok t) : sNew i fa ρ = .nx (ρ.set i (.ow t)) := by unfold sNew sLift; rw [h]
theorem sRet_ok {fa : FE} {ρ : Ev'} {t : T} (h : fa ρ = .ok t) : sRet fa ρ = .rt t := by unfold sRet sLift; rw [h]
theorem sExp_ok {fa : FE} {ρ : Ev'} {t : T} (h : fa ρ = .ok t) : sExp fa ρ = .nx ρ := by unfold sExp sLift; rw [h]
theorem sIf_t {fc : FE} {f g : FS} {ρ : Ev'} (h : fc ρ = .ok (.bl true)) : sIf fc f g ρ = f ρ := by unfold sIf sLift; rw [h]
theorem sIf_f {fc : FE} {f g : FS} {ρ : Ev'} (h : fc ρ = .ok (.bl false)) : sIf fc f g ρ = g ρ := by unfold sIf sLift; rw [h]
theorem seqE {f g : FS} {ρ ρ' : Ev'} {o : Out} (h : f ρ = .nx ρ') (k : g ρ' = o) : sSeq f g ρ = o := (sSeq_nx h).trans k
theorem ifE_t {fc : FE} {f g : FS} {ρ : Ev'} {o : Out} (h : fc ρ = .ok (.bl true)) (k : f ρ = o) : sIf fc f g ρ = o := (sIf_t h).trans k
theorem ifE_f {fc : FE} {f g : FS} {ρ : Ev'} {o : Out} (h : fc ρ = .ok (.bl false)) (k : g ρ = o) : sIf fc f g ρ = o := (sIf_f h).trans k
theorem sSeq_rt {f g : FS} {ρ : Ev'} {t : T} (h : f ρ = .rt t) : sSeq f g ρ = .rt t := by unfold sSeq; rw [h]
theorem sSeq_ex {f g : FS} {ρ ρ' : Ev'} {x : Str} {p : List T} (h : f ρ = .ex x p ρ') : sSeq f g ρ = .ex x p ρ' := by unfold sSeq; rw [h]
theorem sSeq_ct {f g : FS} {ρ ρ' : Ev'} (h : f ρ = .ct ρ') : sSeq f g ρ = .ct ρ' := by unfold sSeq; rw [h]
theorem sSeq_bk {f g : FS} {ρ ρ' : Ev'} (h : f ρ = .bk ρ') : sSeq f g ρ = .bk ρ' := by unfold sSeq; rw [h]
theorem sFor_ok {fi : FI} {g : Tg} {body : FS} {ρ : Ev'} {l : List T} {o : Out} (h : fi ρ = .ok l) (k : loopF g body l ρ = o) : sFor fi g body ρ = o := by
  unfold sFor
  rw [h]
  exact k
theorem fDef_rt {m : Nat} {f : FS} {ts : List T} {t : T} (h : f (ts.map Sl.sh ++ List.replicate (m - ts.length) Sl.un) = .rt t) : fDef m f ts = .ok t := by unfold fDef; rw [h]
theorem fDef_nx {m : Nat} {f : FS} {ts : List T} {ρ : Ev'} (h : f (ts.map Sl.sh ++ List.replicate (m - ts.length) Sl.un) = .nx ρ) : fDef m f ts = .ok .non := by unfold fDef; rw [h]
theorem fDef_ex {m : Nat} {f : FS} {ts : List T} {ρ : Ev'} {x : Str} {p : List T} (h : f (ts.map Sl.sh ++ List.replicate (m - ts.length) Sl.un) = .ex x p ρ) : fDef m f ts = .ex x p := by unfold fDef; rw [h]
theorem iIt_lst {fa : FE} {ρ : Ev'} {l : List T} (h : fa ρ = .ok (.lst l)) : iIt fa ρ = .ok l := by unfold iIt; rw [h]; rfl
theorem iIt_tup {fa : FE} {ρ : Ev'} {l : List T} (h : fa ρ = .ok (.tup l)) : iIt fa ρ = .ok l := by unfold iIt; rw [h]; rfl
theorem iRg_ok {fa : FE} {ρ : Ev'} {n : Nat} (h : fa ρ = .ok (.int (n : Nat))) (hn : n ≤ 1000) : iRg fa ρ = .ok ((List.range n).map fun i => .int (i : Nat)) := by
  have hb : ((n : Nat) : Int) ≤ 100000 := Int.ofNat_le.mpr (le_big hn)
  have hb0 : (-100000 : Int) ≤ (n : Nat) := by omega
  unfold iRg
  rw [h]
  show (if (-100000 : Int) ≤ (n : Nat) ∧ ((n : Nat) : Int) ≤ 100000 then Res.ok ((List.range ((n : Nat) : Int).toNat).map fun i => T.int (i : Nat)) else .bad) = _
  rw [if_pos ⟨hb0, hb⟩, Int.toNat_natCast]
/-- a comprehension without a test, its target one name -/
theorem compF_mapM {i : Nat} {fe : FE} {ρ : Ev'} {α : Type} {u : α → T} {f : α → T} : ∀ {l : List α}, (∀ a ∈ l, fe (ρ.set i (.sh (u a))) = .ok (f a)) → compF (.nm i) (eC (.bl true)) fe (l.map u) ρ = .ok (l.map f)
  | [], _ => rfl
  | a :: l, h => by
    rw [List.map_cons, List.map_cons]
    unfold compF
    simp only [setT, eC]
    rw [h a List.mem_cons_self, compF_mapM fun b m => h b (List.mem_cons_of_mem _ m)]
    rfl
theorem eComp_map {fi : FI} {i : Nat} {is : List Nat} {fe : FE} {ρ : Ev'} {α : Type} {u : α → T} {f : α → T} {l : List α} (hi : fi ρ = .ok (l.map u)) (hl : l.length ≤ 1000) (h : ∀ a ∈ l, fe ((wipeE ρ is).set i (.sh (u a))) = .ok (f a)) :
    eComp fi (.nm i) is (eC (.bl true)) fe ρ = .ok (.lst (l.map f)) := by
  unfold eComp
  rw [hi]
  show (Res.bind (compF (.nm i) (eC (.bl true)) fe (l.map u) (wipeE ρ is)) fun ts => if ts.length ≤ 99999 then .ok (T.lst ts) else .bad) = _
  rw [compF_mapM h]
  show (if (l.map f).length ≤ 99999 then Res.ok (T.lst (l.map f)) else .bad) = _
  rw [if_pos (by rw [List.length_map]; exact le_big9 hl)]
theorem gEq_strs {x y : Str} {b : Bool} (h : ((x.cps.all (· < 0x110000) && y.cps.all (· < 0x110000)) && ((x == y) == b)) = true) : gEq (.str x) (.str y) = some (.bl b) := by
  have h' := Bool.and_eq_true_iff.mp h
  have h2 : (x == y) = b := by simpa using h'.2
  unfold gEq
  rw [okD_str, okD_str, if_pos h'.1, eqT_str, h2]
theorem mod_nat (z m : Int) (h : 0 < m) : ∃ k : Nat, z % m = (k : Int) ∧ (k : Int) < m :=
  ⟨(z % m).toNat, (Int.toNat_of_nonneg (Int.emod_nonneg _ (by omega))).symm, by rw [Int.toNat_of_nonneg (Int.emod_nonneg _ (by omega))]; exact Int.emod_lt_of_pos _ h⟩
theorem gDiv_ok {a b : Int} (h1 : 0 < b) (h2 : b < 1073741824) : gDiv (.int a) (.int b) = some (.int (a / b)) := by
  unfold gDiv
  simp [h1, h2]
theorem gMod_ok {a b : Int} (h1 : 0 < b) : gMod (.int a) (.int b) = some (.int (a % b)) := by
  unfold gMod
  simp [h1]
theorem gMulL {a b : Int} (h1 : -1000 ≤ a) (h2 : a ≤ 1000) : gMul (.int a) (.int b) = some (.int (a * b)) := by
  show (if (-(2 ^ 64) < a ∧ a < 2 ^ 64) ∨ (-(2 ^ 64) < b ∧ b < 2 ^ 64) then some (T.int (a * b)) else none) = _
  rw [if_pos (.inl ⟨by omega, by omega⟩)]
theorem gMulR {a b : Int} (h1 : -1000 ≤ b) (h2 : b ≤ 1000) : gMul (.int a) (.int b) = some (.int (a * b)) := by
  show (if (-(2 ^ 64) < a ∧ a < 2 ^ 64) ∨ (-(2 ^ 64) < b ∧ b < 2 ^ 64) then some (T.int (a * b)) else none) = _
  rw [if_pos (.inr ⟨by omega, by omega⟩)]
end VS

/-! comprehensions: sets of ints (their number), dicts with keys that are ints or texts -/
namespace VS
open PySem PySem.Spec PyProof.Rows L2 Evl

abbrev setNew (w : World) : Obj := { cls := .type "set", dict := none, data := .set #[] 0 (.fresh 0 0 (!w.params.followText "set-order")) }
section
variable {X : Cx}
/-- an int goes into the set at D -/
theorem setI_put {pins : List (Addr × Obj)} {σ : L2.St} {H : Hp} {s : Shared} {E : Value → Shared → Prop} {D : Addr} {S : Int → Bool} {n : Nat} {c : Int} {u : Value} {Q : Value → Shared → Prop} (I : Inv X pins σ H s) (hD : H D = some (SetO X.w D S n)) (room : n + 1 < scanBound) (ru : RelV (.int c) u)
    (h : ∀ s', Inv X pins σ (upd H D (SetO X.w D (fun j => S j || decide (j = c)) (if S c = true then n else n + 1))) s' → Q .none s') : wpAny (model X.prog X.w) X.A (call (.builtin "set.add") [.ref D, u]) Q E s := by
  obtain ⟨tk, eu⟩ := ru
  rw [eu]
  refine setR_add (setO_get I hD) room fun h' same made => h _ ?_
  obtain ⟨o, es, ep, tb, at_, more⟩ := made
  exact I.write (e := D) (t' := s.toks + 1) (by rw [hD]; trivial) (.inl rfl) (fun b q ne hq => (same.2 b ne).trans hq) ⟨o, at_⟩ (setO_new ⟨o, es, ep, tb, at_, more⟩)
/-- {elt for target in iter if ..}, its elements ints; D the set -/
def tScN (w : World) (wi : TI) (g : TG) (tt : TT) (te : TE) (vs : List Nat) : TE := fun σ H Q => wi σ H fun J H1 => ∀ D, H1 D = none →
  ∃ W : Nat → Nat → Hp → Prop, (∃ m, W 0 m (upd H1 D (SetO w D (fun _ => false) 0))) ∧
    ∀ i m H, W i m H → (J.stop i H ∧ Q (.ref D) H) ∨ (J.go i H ∧ ∃ Nx : Hp → Prop, (∀ H', Nx H' → ∃ m', m' < m ∧ W (i + 1) m' H') ∧
      ∀ x H', J.yld i H x H' → g x (L2.wipe σ vs) H' fun σ2 H2 => L2.wipe σ2 vs = L2.wipe σ vs ∧ tt σ2 H2 fun b H3 => if b = true then
        te σ2 H3 fun y H4 => ∃ (c : Int) (S : Int → Bool) (n : Nat), y = .int c ∧ H4 D = some (SetO w D S n) ∧ n + 1 < scanBound ∧
          Nx (upd H4 D (SetO w D (fun j => S j || decide (j = c)) (if S c = true then n else n + 1))) else Nx H3)
theorem pe_scN {elt tg iter : Expr} {ifs : List Expr} {scope : Scope} {own : List (Str × Nat)} {pos : Pos} {wi : TI} {g : TG} {tt : TT} {te : TE} (hc : X.calm = true) (hN : X.N.Nodup) (hi : PI X tg iter wi) (ok : BlkOk X.N X.env.scope scope own)
    (hg : ∀ (s : Shared) (H : Hp) (C : Addr) (cl : List (Str × Addr)) (fp : List Addr), PG (X.blk s H scope (compEnvC scope cl C X.env) fp) tg g)
    (ht : ∀ (s : Shared) (H : Hp) (C : Addr) (cl : List (Str × Addr)) (fp : List Addr), PTs (X.blk s H scope (compEnvC scope cl C X.env) fp) ifs tt)
    (he : ∀ (s : Shared) (H : Hp) (C : Addr) (cl : List (Str × Addr)) (fp : List Addr), PE (X.blk s H scope (compEnvC scope cl C X.env) fp) elt te)
    (hs : ∀ x, foldedSetIterable iter X.env x = pure x := by intro _; rfl) : PE X (.SetComp elt [⟨tg, iter, ifs, 0⟩] scope pos) (tScN X.w wi g tt te (own.map (·.2))) := by
  refine ⟨fun pins s σ H Q I h => ?_⟩
  rw [PpSet.eval_SetComp]
  have freeOk : ∀ y ∈ scope.names, y.2 = .free → ∃ c, X.env.cells.lookup y.1 = some c := fun y my ey => (ok.free y my ey).elim (fun z => I.ok.has _ (.inl z)) fun z => I.ok.has _ (.inr z)
  refine wpAny_comprehension_free rfl hs (closure_ok freeOk) ok.kind (fun y my ey => by rw [ok.uniq y my, ey]) (thn (hi.run pins s σ H _ I h) fun _ _ walked => thn walked fun _ s2 w2 => ?_)
  obtain ⟨it, fp, tn, J, H2, e0, I2, T, turned, fpOk, q⟩ := w2
  subst e0
  refine PpSet.newSet_ok (newEnv_comp ?_)
  generalize eD : s2.heap.objs.size = D
  have noneD : H2 D = none := I2.hok.fresh (by rw [eD]; exact Nat.le_refl _)
  obtain ⟨W, ⟨m0, w0⟩, turn⟩ := q D noneD
  generalize es3 : ({ s2 with heap := s2.heap.push (setNew X.w) } : Shared) = s3
  have hp3 : s3.heap = s2.heap.push (setNew X.w) := by rw [← es3]
  generalize eH3 : upd H2 D (SetO X.w D (fun _ => false) 0) = H3 at w0
  have I3 : Inv X pins σ H3 s3 := by
    rw [← es3, ← eH3, ← eD]
    exact I2.laid (t' := s2.toks) (fun b o z => Heap.get?_push_of_some _ z) (Nat.le_refl _) (setO_new (setR_fresh X.w))
  have small : ∀ b ∈ fp, b < s2.heap.objs.size := fun b mb => let ⟨_, z, _⟩ := T.obj _ _ turned b mb; Heap.lt_size z
  have fp3 : ∀ b ∈ fp, FpOk X pins H3 b ∧ b < s3.heap.objs.size := fun b mb => by
    have lt := small b mb
    have ne : b ≠ D := by rw [← eD]; exact Nat.ne_of_lt lt
    refine ⟨⟨by rw [← eH3, upd_ne ne]; exact (fpOk b mb).1, (fpOk b mb).2⟩, ?_⟩
    rw [hp3, Heap.size_push]
    exact Nat.lt_succ_of_lt lt
  have turned3 : tn 0 s3.heap := T.keep _ _ _ turned fun b _ o z => by rw [hp3]; exact Heap.get?_push_of_some _ z
  have I4 := block_start I3 ok hN fp3
  have none3 : ∀ b ∈ fp, H3 b = none := fun b mb => (fp3 b mb).1.1
  have kg := hg s3 H3 s3.heap.objs.size (cellsFrom (s3.heap.objs.size + 1) scope.names (cloFrom X.env.cells scope.names [])) fp
  have kt := ht s3 H3 s3.heap.objs.size (cellsFrom (s3.heap.objs.size + 1) scope.names (cloFrom X.env.cells scope.names [])) fp
  have ke := he s3 H3 s3.heap.objs.size (cellsFrom (s3.heap.objs.size + 1) scope.names (cloFrom X.env.cells scope.names [])) fp
  generalize ece : compEnvC scope (cellsFrom (s3.heap.objs.size + 1) scope.names (cloFrom X.env.cells scope.names [])) s3.heap.objs.size X.env = ce at I4 kg kt ke
  have loc : ce.locals = s3.heap.objs.size := by rw [← ece]; rfl
  have done : ∀ C s' m H', Inv X pins σ H' s' → Q (.ref D) H' → s'.heap.Ns C m → FpOk X pins H' C → compPost (model X.prog X.w) X.A X.xe none (EP X pins σ Q) (.ref D) C (.ok .next) s' := fun C s' m H' J' qd hn f =>
    ⟨m, hn, fun h'' sb => ⟨.ref D, H', J'.turned (t' := s'.toks) (fun b o hb z => (sb.2 b hb).trans z) f.1 f.2.1 f.2.2.2.1 f.2.2.2.2.1 f.2.2.2.2.2, rfl, qd⟩⟩
  have goalIs : codeAny (model X.prog X.w) X.A (.compStart (.SetComp elt [⟨tg, iter, ifs, 0⟩] scope pos) 0 (.ref it) (.ref D) ce) (compPost (model X.prog X.w) X.A X.xe none (EP X pins σ Q) (.ref D) s3.heap.objs.size) { s3 with heap := pushCells (s3.heap.push { cls := .type "dict", data := .dict #[] }) scope.names } := by
    generalize es4 : ({ s3 with heap := pushCells (s3.heap.push { cls := .type "dict", data := .dict #[] }) scope.names } : Shared) = s4
    have I4' : Inv (X.blk s3 H3 scope ce fp) [] (L2.wipe σ (own.map (·.2))) H3 s4 := by rw [← es4]; exact I4
    have turned4 : tn 0 s4.heap := T.keep _ _ _ turned3 fun b _ o z => by rw [← es4]; exact pushCells_keeps _ _ _ _ (Heap.get?_push_of_some _ z)
    have still : ∀ {σ' : L2.St} {H' : Hp} {s' : Shared}, Inv (X.blk s3 H3 scope ce fp) [] σ' H' s' → (∀ b ∈ fp, H' b = none) → ∀ b ∈ fp, FpOk (X.blk s3 H3 scope ce fp) [] H' b := fun {σ' H' s'} J' n' b mb =>
      ⟨n' b mb, (J'.ok.exf b mb).1, J'.ok.exfs b mb, .inl mb, fun x c z => (J'.ok.exf b mb).2 x c z, fun p mp => by simp at mp⟩
    have rounds : codeAny (model X.prog X.w) X.A (.compLoop (.SetComp elt [⟨tg, iter, ifs, 0⟩] scope pos) 0 (.ref it) (.ref D) ce) (compPost (model X.prog X.w) X.A X.xe none (EP X pins σ Q) (.ref D) s3.heap.objs.size) s4 := by
      refine PpSet.compLoopS_any (fun n s' => ∃ i H', Inv (X.blk s3 H3 scope ce fp) [] (L2.wipe σ (own.map (·.2))) H' s' ∧ tn i s'.heap ∧ (∀ b ∈ fp, H' b = none) ∧ W i n H') ?_ m0 ⟨0, H3, I4', turned4, none3, w0⟩
      rintro n s5 ⟨i, H5, I5, tn5, none5, w5⟩
      rcases turn i n H5 w5 with ⟨stop, last⟩ | ⟨go, Nx, less, each⟩
      · refine thnF (T.done (X.blk s3 H3 scope ce fp) rfl rfl rfl hc i [] s5 _ H5 (fun _ _ => False) I5 (still I5 none5) tn5 stop) fun r s6 ⟨er, I6⟩ => ?_
        subst er
        have I7 : Inv X pins σ H5 s6 := I3.call' (ch := fp) I6.os I6.base I6.hok I6.bare fun b mb => ⟨(fp3 b mb).1.2.2.2.1, (fp3 b mb).1.2.1, (fp3 b mb).1.2.2.2.2.1, (fp3 b mb).1.2.2.2.2.2⟩
        have noneC : H5 ce.locals = none := I6.free
        obtain ⟨m, nsm, _⟩ := I6.loc
        have nsm' : s6.heap.Ns ce.locals m := nsm
        rw [loc] at noneC nsm'
        exact done _ s6 m H5 I7 last nsm' (I3.fpOk (Nat.le_refl _) noneC)
      · refine thnF (T.item (X.blk s3 H3 scope ce fp) rfl rfl rfl hc i [] s5 _ H5 (fun _ _ => False) I5 (still I5 none5) tn5 go) fun r s6 ⟨u, er, h6⟩ => ?_
        subst er
        refine thnF h6 fun _ s7 ⟨x, H7, I7, r7, y7, tn7, none7⟩ => ?_
        refine thnF (kg.run _ s7 _ H7 x u _ (I7.pinned (still I7 none7) (T.obj _ _ tn7)) r7 (each x H7 y7)) fun _ s8 ⟨σ8, H8, I8, same8, q8⟩ => ?_
        refine thnF (kt.run _ s8 σ8 H8 _ I8 q8) fun b s9 ⟨H9, I9, q9⟩ => ?_
        have nextTurn : ∀ {s' : Shared} {H' : Hp}, Inv (X.blk s3 H3 scope ce fp) ([] ++ pinsAt fp s7.heap) σ8 H' s' → Nx H' → ∃ m, m < n ∧ ∃ i H', Inv (X.blk s3 H3 scope ce fp) [] (L2.wipe σ (own.map (·.2))) H' s' ∧ tn i s'.heap ∧ (∀ b ∈ fp, H' b = none) ∧ W i m H' := fun {s' H'} J' nx => by
          obtain ⟨m', lt, w'⟩ := less H' nx
          have held : ∀ b ∈ fp, ∀ o, s7.heap.get? b = some o → s'.heap.get? b = some o ∧ H' b = none := fun b mb o z =>
            ⟨(J'.pin (b, o) (List.mem_append_right _ (List.mem_append_right _ (mem_pinsAt mb z)))).1, (J'.pin (b, o) (List.mem_append_right _ (List.mem_append_right _ (mem_pinsAt mb z)))).2.1⟩
          refine ⟨m', lt, i + 1, H', (J'.unpinned (pins := [])).weak (by rw [← same8, wipe_length]) (fun j v z => by rw [← same8] at z; exact (wipe_some z).1), T.keep _ _ _ tn7 fun b mb o z => (held b mb o z).1, fun b mb => ?_, w'⟩
          obtain ⟨o, z, _⟩ := T.obj _ _ tn7 b mb
          exact (held b mb o z).2
        cases b with
        | false => simpa using nextTurn I9 (by simpa using q9)
        | true =>
          simp only [if_true] at q9 ⊢
          exact thnF (ke.run _ s9 σ8 H9 _ I9 q9) fun z s10 ⟨yv, H10, I10, r10, c, S0, n0, ey, atD, room, nx⟩ =>
            setI_put (X := X.blk s3 H3 scope ce fp) I10 atD room (by rw [← ey]; exact r10) fun s11 I11 => nextTurn I11 nx
    exact PpSet.codeAny_compStart_set rounds (T.self X.A 0 _ _ _ turned4 rounds)
  rw [← ece] at goalIs
  exact goalIs
end
end VS

namespace VS
open PySem PySem.Spec PyProof.Rows L2 Evl

/-! ### a comprehension that fills a new object -/
section
variable {C : KM} {B : BS} {σ : L2.St}
theorem tg_imp {K : PySem.W.Frag} {g : Tg} {v : V} {σ : L2.St} {H : Hp} {P P' : L2.St → Hp → Prop} (im : ∀ a b, P a b → P' a b) (h : tG K g v σ H P) : tG K g v σ H P' := by
  cases g with
  | nm i => exact im _ _ h
  | tp is =>
    obtain ⟨a, xs, e, h1, h2, h3⟩ := h
    refine ⟨a, xs, e, h1, h2, ?_⟩
    have names : ∀ {is : List Nat} {ws : List V} {σ : L2.St}, gNames is ws σ H P → gNames is ws σ H P' := fun {is} => by
      induction is with
      | nil => intro ws σ ⟨a, b⟩; exact ⟨a, im _ _ b⟩
      | cons i is ih => intro ws σ ⟨v, r, e, q⟩; exact ⟨v, r, e, ih (ws := r) (σ := σ.set i (some v)) q⟩
    exact names h3
theorem comp_gen {H1 G1 : Hp} {ρ : Ev'} {J : It} {l : List T} {g : Tg} {fc fe : FE} {vs : List Nat} {D : Addr} {o0 : HO} {Qd : Hp → Prop} {STEP : L2.St → Hp → (Hp → Prop) → Prop} (A : Hp → List T → HO → Prop) (hA : ∀ G G' ts o, Ex G G' → A G ts o → A G' ts o)
    (hw : ∀ i ∈ tgs g, i ∈ vs) (wk : Wk C J G1 l) (s1 : SR C B σ H1 ρ G1) (hD : H1 D = none) (h0 : A G1 [] o0) {ts : List T} (ec : compF g fc fe l (wipeE ρ vs) = .ok ts) (hlen : ts.length ≤ 99999)
    (hstep : ∀ σ3 H4 ρ1 G4 t tacc acc Nx, SR C B σ3 H4 ρ1 G4 → fe ρ1 = .ok t → H4 D = some acc → A G4 tacc acc → tacc.length < 99999 → (∃ r, tacc ++ (t :: r) = ts) →
      (∀ H5 G5 acc', Gr H4 G4 H5 G5 → H5 D = some acc → A G5 (tacc ++ [t]) acc' → Nx (upd H5 D acc')) → STEP σ3 H4 Nx)
    (hfin : ∀ H' G' acc, Gr H1 G1 H' G' → H' D = some acc → G' D = none → A G' ts acc → Qd H') :
    ∃ W : Nat → Nat → Hp → Prop, (∃ m, W 0 m (upd H1 D o0)) ∧ ∀ i m H, W i m H → (J.stop i H ∧ Qd H) ∨ (J.go i H ∧ ∃ Nx : Hp → Prop, (∀ H', Nx H' → ∃ m', m' < m ∧ W (i + 1) m' H') ∧
      ∀ x H', J.yld i H x H' → tG C.K g x (L2.wipe σ vs) H' fun σ2 H2 => L2.wipe σ2 vs = L2.wipe σ vs ∧ tMT C B W0 fc σ2 H2 fun b H3 => if b = true then STEP σ2 H3 Nx else Nx H3) := by
  have sw := s1.wipe vs
  have hDB : B.1 D = none := fresh_back s1.gr.eh hD
  have hDG : G1 D = none := ex_none s1.exGH hD
  have notOwn : ∀ (i : Nat) (t : T), (wipeE ρ vs)[i]? = some (.ow t) → (L2.wipe σ vs)[i]? ≠ some (some (.ref D)) := fun i t e ea => by
    obtain ⟨a, o, q1, _, q3, _⟩ := sw.ow i t e
    rw [q1] at ea
    cases ea
    rw [hD] at q3
    cases q3
  refine ⟨fun i m H' => m = l.length - i ∧ i ≤ l.length ∧ ∃ G' acc tacc rest, SR C B (L2.wipe σ vs) H' (wipeE ρ vs) G' ∧ Gr H1 G1 H' G' ∧ G' D = none ∧ H' D = some acc ∧ A G' tacc acc ∧ compF g fc fe (l.drop i) (wipeE ρ vs) = .ok rest ∧ tacc ++ rest = ts,
    ⟨_, rfl, Nat.zero_le _, G1, o0, [], ts, sw.beside hDB hDG notOwn (sw.dpFree (Gr.refl sw.exGH) hD), Gr.own s1.exGH hD, hDG, upd_same, h0, by rw [List.drop_zero]; exact ec, rfl⟩, ?_⟩
  rintro i m H' ⟨rfl, hi, G', acc, tacc, rest, sr, gr, gD, hA', isA, er, et⟩
  by_cases hlt : i < l.length
  · rw [List.drop_eq_getElem_cons hlt] at er
    unfold compF at er
    refine .inr ⟨wk.go i H' (gr.eg.trans sr.exGH) hlt, fun H2 => i + 1 ≤ l.length ∧ ∃ G' acc tacc rest, SR C B (L2.wipe σ vs) H2 (wipeE ρ vs) G' ∧ Gr H1 G1 H2 G' ∧ G' D = none ∧ H2 D = some acc ∧ A G' tacc acc ∧ compF g fc fe (l.drop (i + 1)) (wipeE ρ vs) = .ok rest ∧ tacc ++ rest = ts,
      fun H2 ⟨h1, h2⟩ => ⟨l.length - (i + 1), by omega, rfl, h1, h2⟩, fun x H2 y => ?_⟩
    obtain ⟨G2, g2, ix⟩ := wk.yld i H' G' x H2 l[i] gr.eg sr.exGH (List.getElem?_eq_getElem hlt) y
    have s2 := sr.ext g2
    have gD2 : G2 D = none := g2.sep _ _ gD hA'
    have hA2 := g2.eh _ _ hA'
    cases est : setT g l[i] (wipeE ρ vs) with
    | none =>
      simp only [est] at er
      cases er
    | some ρ1 =>
      simp only [est] at er
      have base : tG C.K g x (L2.wipe σ vs) H2 (fun σ3 H3 => H3 = H2 ∧ SR C B σ3 H3 ρ1 G2) := tg_of (C := C) s2 ix est fun σ3 s3 => ⟨rfl, s3⟩
      refine tg_imp (fun σ3 H3 ⟨⟨kl, kj⟩, eH, s3⟩ => ?_) (tg_keep base)
      subst eH
      refine ⟨(wipe_same (σ := L2.wipe σ vs) kl.symm fun j hj => kj j fun z => hj (hw j z)).trans (wipe_same (wipe_length σ vs).symm fun j hj => by rw [wipe_get, if_neg hj]), ρ1, G2, s3, ?_⟩
      cases efc : fc ρ1 with
      | ok t =>
        simp only [efc] at er
        cases t with
        | bl b =>
          intro H4 G4 g4
          have s4 := s3.ext g4
          have gD4 : G4 D = none := g4.sep _ _ gD2 hA2
          have hA4 := g4.eh _ _ hA2
          have sr4 := sr.ext (g2.trans g4)
          cases b with
          | true =>
            cases efe : fe ρ1 with
            | ok t =>
              simp only [efe] at er
              cases ec2 : compF g fc fe (l.drop (i + 1)) (wipeE ρ vs) with
              | ok r2 =>
                rw [ec2] at er
                have er' : (Res.ok (t :: r2) : Res (List T)) = .ok rest := er
                cases er'
                have la : tacc.length + (r2.length + 1) = ts.length := by rw [← et, List.length_append, List.length_cons]
                refine iteT (hstep σ3 H4 ρ1 G4 t tacc acc _ s4 efe hA4 (hA _ _ _ _ (g2.eg.trans g4.eg) isA) (by omega) ⟨r2, et⟩ fun H5 G5 acc' g5 hA5 isA5 => ?_)
                have gD5 : G5 D = none := g5.sep _ _ gD4 hA4
                have sr5 := sr4.ext g5
                have gg := ((gr.trans g2).trans g4).trans g5
                exact ⟨hlt, G5, acc', tacc ++ [t], r2, sr5.beside hDB gD5 notOwn (sw.dpFree gg hD), ⟨Ex.mut gg.eh hD, gg.eg, Ex.mut gg.gh gD5, gg.sep⟩, gD5, upd_same, isA5, rfl, by rw [List.append_assoc]; exact et⟩
              | ex x q => rw [ec2] at er; cases er
              | bad => rw [ec2] at er; cases er
            | ex x q => simp only [efe] at er; cases er
            | bad => simp only [efe] at er; cases er
          | false =>
            exact iteF ⟨hlt, G4, acc, tacc, rest, sr4, (gr.trans g2).trans g4, gD4, hA4, hA _ _ _ _ (g2.eg.trans g4.eg) isA, er, et⟩
        | _ => cases er
      | ex x q => simp only [efc] at er; cases er
      | bad => simp only [efc] at er; cases er
  · have e : i = l.length := by omega
    subst e
    rw [List.drop_length] at er
    have er' : (Res.ok [] : Res (List T)) = .ok rest := er
    cases er'
    rw [List.append_nil] at et
    subst et
    exact .inl ⟨wk.stop H' (gr.eg.trans sr.exGH), hfin H' G' acc gr hA' gD isA⟩
end
theorem compF_noex {g : Tg} {fc fe : FE} {ρ : Ev'} : ∀ (l : List T) (x : Str) (q : List T), compF g fc fe l ρ ≠ .ex x q
  | [], x, q, z => by cases z
  | a :: r, x, q, z => by
    unfold compF at z
    split at z
    · cases z
    · split at z
      · split at z
        · cases er : compF g fc fe r ρ with
          | ok w => rw [er] at z; cases z
          | ex x' q' => exact compF_noex r x' q' er
          | bad => rw [er] at z; cases z
        · cases z
      · exact compF_noex r x q z
      · cases z

/-! ### len({e for target in iter if ..}), the elements ints -/
def ints? : List T → Option (List Int)
  | [] => some []
  | .int i :: r => (ints? r).map (i :: ·)
  | _ => none
def nub (ks : List Int) : List Int := ks.foldl (fun a k => if k ∈ a then a else a ++ [k]) []
theorem nub_snoc (ks : List Int) (c : Int) : nub (ks ++ [c]) = if c ∈ nub ks then nub ks else nub ks ++ [c] := by
  unfold nub
  rw [List.foldl_append]
  rfl
theorem mem_foldl (ks : List Int) (j : Int) : ∀ a : List Int, j ∈ ks.foldl (fun a k => if k ∈ a then a else a ++ [k]) a ↔ j ∈ a ∨ j ∈ ks := by
  induction ks with
  | nil => intro a; simp
  | cons k r ih =>
    intro a
    rw [List.foldl_cons, ih]
    by_cases e : k ∈ a
    · rw [if_pos e, List.mem_cons]
      constructor
      · rintro (h | h)
        · exact .inl h
        · exact .inr (.inr h)
      · rintro (h | rfl | h)
        · exact .inl h
        · exact .inl e
        · exact .inr h
    · rw [if_neg e, List.mem_append, List.mem_singleton, List.mem_cons, or_assoc]
theorem mem_nub (ks : List Int) (j : Int) : j ∈ nub ks ↔ j ∈ ks := by
  unfold nub
  rw [mem_foldl]
  simp
theorem ints_app : ∀ {ts : List T} {ks : List Int} {c : Int}, ints? ts = some ks → ints? (ts ++ [.int c]) = some (ks ++ [c])
  | [], ks, c, h => by cases h; rfl
  | t :: ts, ks, c, h => by
    cases t with
    | int i =>
      have h' : (ints? ts).map (i :: ·) = some ks := h
      cases q : ints? ts with
      | none => rw [q] at h'; cases h'
      | some r =>
        rw [q] at h'
        cases h'
        show (ints? (ts ++ [.int c])).map (i :: ·) = _
        rw [ints_app q]
        rfl
    | _ => cases h
theorem ints_pre : ∀ {ts us : List T} {ks : List Int}, ints? (ts ++ us) = some ks → ∃ k1 k2, ints? ts = some k1 ∧ ints? us = some k2
  | [], us, ks, h => ⟨[], ks, rfl, h⟩
  | t :: ts, us, ks, h => by
    cases t with
    | int i =>
      have h' : (ints? (ts ++ us)).map (i :: ·) = some ks := h
      cases q : ints? (ts ++ us) with
      | none => rw [q] at h'; cases h'
      | some r =>
        obtain ⟨k1, k2, e1, e2⟩ := ints_pre q
        exact ⟨i :: k1, k2, by show (ints? ts).map (i :: ·) = _; rw [e1]; rfl, e2⟩
    | _ => cases h
def eSetLen (fi : FI) (g : Tg) (own : List Nat) (fc fe : FE) : FE := fun ρ => (fi ρ).bind fun l => (compF g fc fe l (wipeE ρ own)).bind fun ts => match ints? ts with
  | some ks => if ts.length ≤ 1000 then .ok (.int (nub ks).length) else .bad
  | none => .bad
/-- whatever is made so far is ints, if all is -/
def isInt : T → Bool
  | .int _ => true
  | _ => false
def rLenSet (w : World) : List V → Hp → VK → Prop := fun vs H Q => ∃ (a : Addr) (S : Int → Bool) (n : Nat), vs = [.ref a] ∧ H a = some (SetO w a S n) ∧ n ≤ 1000 ∧ Q (.int n) H
theorem c_lenSet {X : Cx} : CallR X (.builtin "len") (rLenSet X.w) := by
  intro pins s σ H xs us Q I r h
  obtain ⟨a, S, n, rfl, hH, hn, q⟩ := h
  cases r with
  | cons r rr =>
    cases rr
    cases r
    obtain ⟨o, es, ep, t, ho, hex, hd, _, _, _, _, hf, hsz, _⟩ := setO_get I hH
    refine call_len_set ho hex hd hf (by omega) ?_
    exact ⟨.int n, H, I.tok _, ⟨_, by rw [hsz]⟩, q⟩
section
variable {X : Cx} {B : BS} {W : WX} {tg iter elt : Expr} {ifs : List Expr} {scope : Scope} {own : List (Str × Nat)} {pos p p2 : Pos} {fi : FI} {g : Tg} {fc fe : FE}
theorem d_lenSet (hgl : Gl X "len") (hml : X.mg "len" = none) (hc : X.calm = true) (hN : X.N.Nodup) (hi : DI X B W tg iter fi) (ok : BlkOk X.N X.env.scope scope own) (hw : ∀ i ∈ tgs g, i ∈ own.map (·.2))
    (hg : ∀ (s : Shared) (H : Hp) (C : Addr) (cl : List (Str × Addr)) (fp : List Addr), DG (X.blk s H scope (compEnvC scope cl C X.env) fp) tg g)
    (ht : ∀ (s : Shared) (H : Hp) (C : Addr) (cl : List (Str × Addr)) (fp : List Addr), DTs (X.blk s H scope (compEnvC scope cl C X.env) fp) B W0 ifs fc)
    (he : ∀ (s : Shared) (H : Hp) (C : Addr) (cl : List (Str × Addr)) (fp : List Addr), DE (X.blk s H scope (compEnvC scope cl C X.env) fp) B W0 .E elt fe) (hs : ∀ x, foldedSetIterable iter X.env x = pure x := by intro _; rfl)
    (hst : starEach [.SetComp elt [⟨tg, iter, ifs, 0⟩] scope p2] X.env = (false, eval (.SetComp elt [⟨tg, iter, ifs, 0⟩] scope p2) X.env) :: starEach [] X.env := by rfl) :
    DE X B W .E (.Call (.Name "len" p) [.SetComp elt [⟨tg, iter, ifs, 0⟩] scope p2] [] pos) (eSetLen fi g (own.map (·.2)) fc fe) := by
  refine PE.imp (pe_callB c_lenSet hgl hml PySem.boot_len (pa_cons (pe_scN (g := tG X.K g) (tt := tMT (km X) B W0 fc) (te := tM (km X) B .E W0 fe) hc hN hi ok hg ht he hs) pa_nil hst) (by decide) (by decide) hst rfl) fun σ H Q ⟨ρ, G, s, q⟩ => ?_
  refine ⟨ρ, G, s, ?_⟩
  unfold eSetLen at q
  cases ei : fi ρ with
  | bad => rw [ei] at q; exact q
  | ex x p' => rw [ei] at q; exact q
  | ok l =>
    rw [ei] at q
    intro J H1 G1 g1 wk D hD
    have q1 : Post (km X) .E W σ H G ((compF g fc fe l (wipeE ρ (own.map (·.2)))).bind fun ts => match ints? ts with | some ks => if ts.length ≤ 1000 then .ok (.int (nub ks).length) else .bad | none => .bad) Q := q
    cases ec : compF g fc fe l (wipeE ρ (own.map (·.2))) with
    | bad => rw [ec] at q1; exact q1.elim
    | ex x p' => exact (compF_noex _ _ _ ec).elim
    | ok ts =>
      rw [ec] at q1
      have q2 : Post (km X) .E W σ H G (match ints? ts with | some ks => if ts.length ≤ 1000 then .ok (.int (nub ks).length) else .bad | none => .bad) Q := q1
      cases et : ints? ts with
      | none => rw [et] at q2; exact q2.elim
      | some ks =>
        rw [et] at q2
        have q3 : Post (km X) .E W σ H G (if ts.length ≤ 1000 then .ok (.int (nub ks).length) else .bad) Q := q2
        split at q3
        · rename_i hl
          have s1 := s.ext g1
          refine comp_gen (C := km X) (Qd := fun H' => tNil σ H' fun xs H2 => rLenSet X.w (.ref D :: xs) H2 Q) (fun _ us o => ∃ js, ints? us = some js ∧ (nub js).length ≤ us.length ∧ o = SetO X.w D (fun j => decide (j ∈ nub js)) (nub js).length) (fun G G' us o _ h => h) hw wk s1 hD ?_ ec (le_big9 hl) ?_ ?_
          · exact ⟨[], rfl, Nat.le_refl _, by unfold nub; simp⟩
          · intro σ3 H4 ρ1 G4 t tacc acc Nx s3 efe hD4 hA hlt hpre nx
            refine ⟨ρ1, G4, s3, ?_⟩
            rw [efe]
            intro v H5 G5 g5 iv
            obtain ⟨r, hr⟩ := hpre
            obtain ⟨js, hj, hjl, rfl⟩ := hA
            have hall : (tacc ++ [t]).length ≤ 1000 ∧ ∃ c, t = .int c := by
              rw [← hr] at hl et
              rw [List.length_append, List.length_cons] at hl
              refine ⟨by rw [List.length_append, List.length_singleton]; omega, ?_⟩
              obtain ⟨_, k2, _, e2⟩ := ints_pre et
              cases t with
              | int c => exact ⟨c, rfl⟩
              | _ => cases e2
            obtain ⟨hl2, c, rfl⟩ := hall
            have ev : v = .int c := Md.int1 iv
            subst ev
            rw [List.length_append, List.length_singleton] at hl2
            refine ⟨c, _, _, rfl, g5.eh _ _ hD4, by unfold scanBound; omega, ?_⟩
            refine nx H5 G5 _ g5 (g5.eh _ _ hD4) ⟨js ++ [c], ints_app hj, ?_, ?_⟩
            · rw [nub_snoc, List.length_append, List.length_singleton]
              split
              · omega
              · rw [List.length_append, List.length_singleton]; omega
            · have e1 : (fun j => decide (j ∈ nub js) || decide (j = c)) = fun j => decide (j ∈ nub (js ++ [c])) := by
                funext j
                rw [← Bool.decide_or]
                refine decide_eq_decide.mpr ?_
                rw [mem_nub, mem_nub, List.mem_append, List.mem_singleton]
              have e2 : (if decide (c ∈ nub js) = true then (nub js).length else (nub js).length + 1) = (nub (js ++ [c])).length := by
                rw [nub_snoc]
                by_cases m : c ∈ nub js
                · rw [if_pos (decide_eq_true m), if_pos m]
                · rw [if_neg (by simpa using m), if_neg m, List.length_append, List.length_singleton]
              rw [e1, e2]
          · intro H' G' acc gr hA' hn ⟨js, hj, hjl, e⟩
            subst e
            rw [et] at hj
            cases hj
            exact ⟨D, _, _, rfl, hA', by omega, q3 _ H' G' (g1.trans gr) (show VS.Is (km X) G' (.int (nub ks).length) _ from Is.intI)⟩
        · exact q3.elim
end
end VS

/-! dicts of one's own whose keys are tuples -/
namespace VS
open PySem PySem.Spec PyProof.Rows L2 Evl

/-! ### keys -/
mutual
theorem nest_of {X : Cx} {pins : List (Addr × Obj)} {σ : L2.St} {H : Hp} {s : Shared} (I : Inv X pins σ H s) : ∀ (t : T) (v : V) (u : Value) (k : NestedKey), Is (km X) H t v → RelV v u → nk? t = some k → NestedIs s.heap k u
  | .non, v, u, k, h, r, e => by
    unfold Is at h; unfold nk? at e
    subst h; cases e
    cases (show u = Value.none from r)
    exact .none
  | .int i, v, u, k, h, r, e => by
    unfold Is at h; unfold nk? at e
    subst h; cases e
    obtain ⟨t, rfl⟩ := (show ∃ t, u = Value.int i t from r)
    exact .int i t
  | .str i, v, u, k, h, r, e => by
    unfold Is at h; unfold nk? at e
    subst h; cases e
    obtain ⟨t, rfl⟩ := (show ∃ t, u = Value.str i t from r)
    exact .text i t
  | .tup l, v, u, k, h, r, e => by
    unfold Is at h; unfold nk? at e
    obtain ⟨a, vs, rfl, h2, h3⟩ := h
    cases (show u = Value.ref a from r)
    cases q : nks? l with
    | none => rw [q] at e; cases e
    | some ks =>
      rw [q] at e
      cases e
      obtain ⟨its, rv, ⟨o, k1, k2, n, k3⟩, _⟩ := I.tuple h2
      exact .tup k1 k2 k3 (by simpa using nests_of I l vs its ks h3 rv q)
  | .bl _, _, _, _, _, _, e => by unfold nk? at e; cases e
  | .lst _, _, _, _, _, _, e => by unfold nk? at e; cases e
  | .dic _ _, _, _, _, _, _, e => by unfold nk? at e; cases e
  | .fro _, _, _, _, _, _, e => by unfold nk? at e; cases e
  | .fn _, _, _, _, _, _, e => by unfold nk? at e; cases e
  | .ty _, _, _, _, _, _, e => by unfold nk? at e; cases e
theorem nests_of {X : Cx} {pins : List (Addr × Obj)} {σ : L2.St} {H : Hp} {s : Shared} (I : Inv X pins σ H s) : ∀ (ts : List T) (vs : List V) (us : List Value) (ks : List NestedKey), IsL (km X) H ts vs → Vals vs us → nks? ts = some ks → NestedAll s.heap ks us
  | [], vs, us, ks, h, r, e => by
    unfold IsL at h; unfold nks? at e
    subst h; cases e; cases r
    exact .nil
  | t :: ts, vs, us, ks, h, r, e => by
    unfold IsL at h; unfold nks? at e
    obtain ⟨v, w, rfl, h2, h3⟩ := h
    cases r with
    | cons r1 r2 =>
      cases q1 : nk? t with
      | none => rw [q1] at e; cases e
      | some k =>
        cases q2 : nks? ts with
        | none => rw [q1, q2] at e; cases e
        | some ks' =>
          rw [q1, q2] at e
          cases e
          exact .cons (nest_of I t v _ k h2 r1 q1) (nests_of I ts w _ ks' h3 r2 q2)
end
theorem tk_shape {t : T} {k : NestedKey} (h : tk? t = some k) : ∃ l ks, t = .tup l ∧ nks? l = some ks ∧ k = .tup ks ∧ k.depth ≤ 8 := by
  cases t with
  | tup l =>
    unfold tk? at h
    simp only at h
    cases q : nks? l with
    | none => rw [q] at h; cases h
    | some ks =>
      rw [q] at h
      simp only at h
      split at h
      · rename_i c
        cases h
        exact ⟨l, ks, rfl, q, rfl, c⟩
      · cases h
  | _ => cases h
section
variable {X : Cx} {pins : List (Addr × Obj)} {σ : L2.St} {H G : Hp} {s : Shared}
theorem key_is (I : Inv X pins σ H s) (ex : Ex G H) {t : T} {v : V} {k : NestedKey} (h : Is (km X) G t v) (e : tk? t = some k) : ∃ b, v = .ref b ∧ (nestedKind X.prog X.w).is s.heap k b := by
  obtain ⟨l, ks, rfl, e1, rfl, hd⟩ := tk_shape e
  have h' := Is.mono ex _ _ h
  have h2 := h'
  unfold Is at h2
  obtain ⟨a, vs, rfl, _, _⟩ := h2
  refine ⟨a, rfl, nest_of I (.tup l) _ (.ref a) _ h' rfl ?_, hd⟩
  unfold nk?
  rw [e1]
  rfl
theorem keys_are (I : Inv X pins σ H s) (ex : Ex G H) : ∀ {ks : List T} {xs : List (NestedKey × Addr × Value)}, KeysAre ks xs → IsL (km X) G ks (xs.map fun x => .ref x.2.1) → ∀ x ∈ xs, (nestedKind X.prog X.w).is s.heap x.1 x.2.1
  | [], [], _, _, x, m => by cases m
  | k :: ks, x :: xs, h, i, y, m => by
    unfold KeysAre at h
    cases h with
    | cons h1 h2 =>
      rw [List.map_cons] at i
      unfold IsL at i
      obtain ⟨v, r, e, i1, i2⟩ := i
      obtain ⟨rfl, rfl⟩ := List.cons.inj e
      rcases List.mem_cons.mp m with rfl | m
      · obtain ⟨b, e1, e2⟩ := key_is I ex i1 h1
        cases e1
        exact e2
      · exact keys_are I ex h2 i2 y m
/-- the dict, as the library tells it -/
theorem dt_h (I : Inv X pins σ H s) (ex : Ex G H) {d : Addr} {ks : List T} {xs : List (NestedKey × Addr × Value)} (hd : H d = some (NdO X.w d xs)) (hk : KeysAre ks xs) (hi : IsL (km X) G ks (xs.map fun x => .ref x.2.1)) :
    s.heap.DictOfH (nestedKind X.prog X.w) d xs := by
  obtain ⟨⟨o, es, ep, h1, h2, h3, h4, h5⟩, _⟩ := (show ObjOk X.prog X.w H s.heap d (NdO X.w d xs) from I.hok d _ hd)
  exact ⟨o, es, ep, h1, h2, h3, h4, keys_are I ex hk hi, h5⟩
theorem nd_of {P : Program} {w : World} {H : Hp} {h : Heap} {d : Addr} {xs : List (NestedKey × Addr × Value)} (x : h.DictOfH (nestedKind P w) d xs) : ObjOk P w H h d (NdO w d xs) := by
  obtain ⟨o, es, ep, h1, h2, h3, h4, _, h5⟩ := x
  refine ⟨⟨o, es, ep, h1, h2, h3, h4, h5⟩, ⟨o, h1⟩, fun a b ⟨o', es', ep', k1, k2⟩ k => ⟨o', es', ep', k _ k1, k2⟩⟩
end

/-! ### the trees' table -/
def tkEq (a b : T) : Bool := decide (tk? a = tk? b)
def lookK : List T → List T → T → Option T
  | k :: ks, w :: ws, x => if tkEq k x then some w else lookK ks ws x
  | _, _, _ => none
def putK2 (ks ws : List T) (k w : T) : List T × List T :=
  if ks.any (fun x => tkEq x k) then (ks, List.zipWith (fun x y => if tkEq x k then w else y) ks ws) else (ks ++ [k], ws ++ [w])
theorem Paired.len {α β : Type} {R : α → β → Prop} : ∀ {xs : List α} {ys : List β}, Paired R xs ys → xs.length = ys.length
  | _, _, .nil => rfl
  | _, _, .cons _ r => by rw [List.length_cons, List.length_cons, Paired.len r]
section
variable {C : KM} {G : Hp}
theorem key_any {k : T} {key : NestedKey} (hk : tk? k = some key) : ∀ {ks : List T} {xs : List (NestedKey × Addr × Value)}, KeysAre ks xs → (ks.any fun x => tkEq x k) = (atKey xs key).isSome
  | [], [], _ => rfl
  | t :: ks, x :: xs, h => by
    unfold KeysAre at h
    cases h with
    | cons h1 h2 =>
      rw [List.any_cons, key_any hk h2]
      have e : tkEq t k = decide (x.1 = key) := by
        unfold tkEq
        rw [h1, hk]
        exact decide_eq_decide.mpr ⟨fun z => Option.some.inj z, fun z => by rw [z]⟩
      rw [e]
      unfold atKey
      rw [List.find?_cons]
      by_cases c : x.1 = key
      · rw [decide_eq_true c]
        rfl
      · rw [decide_eq_false c]
        rfl
theorem key_at {k : T} {key : NestedKey} (hk : tk? k = some key) : ∀ {ks ws : List T} {xs : List (NestedKey × Addr × Value)} {vs : List V} {t : T}, KeysAre ks xs → Vals vs (xs.map fun x => x.2.2) → IsL C G ws vs → lookK ks ws k = some t → ∃ p v, atKey xs key = some p ∧ RelV v p.2 ∧ Is C G t v
  | [], _, _, _, _, _, _, _, e => by simp [lookK] at e
  | _ :: _, [], _, _, _, _, _, _, e => by simp [lookK] at e
  | k0 :: ks, w :: ws, [], vs, t, h, _, _, _ => by unfold KeysAre at h; cases h
  | k0 :: ks, w :: ws, x :: xs, vs, t, h, r, i, e => by
    unfold KeysAre at h
    cases h with
    | cons h1 h2 =>
      rw [List.map_cons] at r
      cases r with
      | cons r1 r2 =>
        unfold IsL at i
        obtain ⟨v, vs', e1, i1, i2⟩ := i
        obtain ⟨rfl, rfl⟩ := List.cons.inj e1
        unfold lookK at e
        have eq : tkEq k0 k = decide (x.1 = key) := by
          unfold tkEq
          rw [h1, hk]
          exact decide_eq_decide.mpr ⟨fun z => Option.some.inj z, fun z => by rw [z]⟩
        rw [eq] at e
        by_cases c : x.1 = key
        · rw [decide_eq_true c] at e
          cases e
          exact ⟨x.2, _, by unfold atKey; rw [List.find?_cons, decide_eq_true c]; rfl, r1, i1⟩
        · rw [decide_eq_false c] at e
          obtain ⟨p, v, q1, q2, q3⟩ := key_at hk h2 r2 i2 e
          exact ⟨p, v, by unfold atKey at q1 ⊢; rw [List.find?_cons, decide_eq_false c]; exact q1, q2, q3⟩
theorem put_map {k w : T} {key : NestedKey} {v : V} {u : Value} (hk : tk? k = some key) (ru : RelV v u) (iw : Is C G w v) : ∀ {ks ws : List T} {xs : List (NestedKey × Addr × Value)} {vs : List V}, KeysAre ks xs → Vals vs (xs.map fun x => x.2.2) → IsL C G ws vs →
    KeysAre ks (xs.map (putAt key u)) ∧ (xs.map (putAt key u)).map (fun x => V.ref x.2.1) = xs.map (fun x => V.ref x.2.1) ∧ ∃ vs', Vals vs' ((xs.map (putAt key u)).map fun x => x.2.2) ∧ IsL C G (List.zipWith (fun x y => if tkEq x k then w else y) ks ws) vs'
  | [], ws, [], vs, _, r, i => ⟨.nil, rfl, [], .nil, by
      rw [List.zipWith_nil_left]
      exact IsL.nil⟩
  | k0 :: ks, [], x :: xs, vs, _, r, i => by
    unfold IsL at i
    subst i
    cases r
  | k0 :: ks, w0 :: ws, x :: xs, vs, h, r, i => by
    unfold KeysAre at h
    cases h with
    | cons h1 h2 =>
      rw [List.map_cons] at r
      cases r with
      | cons r1 r2 =>
        unfold IsL at i
        obtain ⟨v0, vs', e1, i1, i2⟩ := i
        obtain ⟨rfl, rfl⟩ := List.cons.inj e1
        obtain ⟨p1, p2, vs2, p3, p4⟩ := put_map hk ru iw h2 r2 i2
        have eq : tkEq k0 k = decide (x.1 = key) := by
          unfold tkEq
          rw [h1, hk]
          exact decide_eq_decide.mpr ⟨fun z => Option.some.inj z, fun z => by rw [z]⟩
        rw [List.zipWith_cons_cons, eq, List.map_cons]
        by_cases c : x.1 = key
        · have e2 : putAt key u x = (x.1, x.2.1, u) := by unfold putAt; rw [if_pos c]
          rw [decide_eq_true c, e2]
          refine ⟨.cons h1 p1, by rw [List.map_cons, List.map_cons, p2], v :: vs2, ?_, ?_⟩
          · rw [List.map_cons]
            exact .cons ru p3
          · exact IsL.cons iw p4
        · have e2 : putAt key u x = x := by unfold putAt; rw [if_neg c]
          rw [decide_eq_false c, e2]
          exact ⟨.cons h1 p1, by rw [List.map_cons, List.map_cons, p2], _, by rw [List.map_cons]; exact .cons r1 p3, IsL.cons i1 p4⟩
theorem Paired.snoc2 {α β : Type} {R : α → β → Prop} : ∀ {xs : List α} {ys : List β} {x : α} {y : β}, Paired R xs ys → R x y → Paired R (xs ++ [x]) (ys ++ [y])
  | _, _, _, _, .nil, h => .cons h .nil
  | _, _, _, _, .cons r q, h => .cons r (Paired.snoc2 q h)
theorem put_is {k w : T} {key : NestedKey} {b : Addr} {v : V} {u : Value} {ks ws : List T} {xs : List (NestedKey × Addr × Value)} {vs : List V} (hk : tk? k = some key) (ik : Is C G k (.ref b)) (ru : RelV v u) (iw : Is C G w v) (h : KeysAre ks xs) (hi : IsL C G ks (xs.map fun x => .ref x.2.1))
    (r : Vals vs (xs.map fun x => x.2.2)) (i : IsL C G ws vs) : KeysAre (putK2 ks ws k w).1 (storedH xs key b u) ∧ IsL C G (putK2 ks ws k w).1 ((storedH xs key b u).map fun x => .ref x.2.1) ∧ ∃ vs', Vals vs' ((storedH xs key b u).map fun x => x.2.2) ∧ IsL C G (putK2 ks ws k w).2 vs' := by
  have ea := key_any hk h
  unfold putK2 storedH
  rw [ea]
  by_cases c : (atKey xs key).isSome = true
  · rw [if_pos c, if_pos c]
    obtain ⟨p1, p2, p3⟩ := put_map hk ru iw h r i
    exact ⟨p1, by rw [p2]; exact hi, p3⟩
  · rw [if_neg c, if_neg c]
    refine ⟨Paired.snoc2 h hk, ?_, vs ++ [v], ?_, i.app (IsL.one iw)⟩
    · rw [List.map_append]
      exact hi.app (IsL.one ik)
    · rw [List.map_append]
      exact Paired.snoc2 r ru
theorem stored_len (xs : List (NestedKey × Addr × Value)) (key : NestedKey) (b : Addr) (u : Value) : (storedH xs key b u).length ≤ xs.length + 1 := by
  unfold storedH
  split
  · rw [List.length_map]; omega
  · rw [List.length_append, List.length_singleton]; omega
end
end VS

namespace VS
open PySem PySem.Spec PyProof.Rows L2 Evl

/-! ### slots that hold things of one's own -/
section
variable {C : KM} {B : BS} {σ : L2.St} {H G H' : Hp} {ρ : Ev'} {i : Nat} {v : V} {d d' : D} {F F' : List Addr}
theorem SR.dpAt (s : SR C B σ H ρ G) (e : ρ[i]? = some (.dp d)) : ∃ v F, σ[i]? = some (some v) ∧ Dv C B.w H G d v F ∧ F.Nodup ∧ ∀ x ∈ F, B.1 x = none ∧ G x = none := by
  obtain ⟨Fp, h1, _, _, _⟩ := s.dp
  obtain ⟨v, q1, q2, q3, q4⟩ := h1 i d e
  exact ⟨v, Fp i, q1, q2, q3, q4⟩
/-- a slot is stored with a thing of one's own -/
theorem SR.setDp (s : SR C B σ H ρ G) (h : Dv C B.w H G d v F) (nd : F.Nodup) (hF : ∀ x ∈ F, B.1 x = none ∧ G x = none)
    (f1 : ∀ (k : Nat) (e : D) (u : V) (F' : List Addr), k ≠ i → ρ[k]? = some (.dp e) → σ[k]? = some (some u) → Dv C B.w H G e u F' → ∀ x ∈ F, x ∉ F')
    (f2 : ∀ (j : Nat) (t : T) (a : Addr), j ≠ i → ρ[j]? = some (.ow t) → σ[j]? = some (some (.ref a)) → a ∉ F) (hbi : ∀ p ∈ B.bi, p.1 = i → v = .ref p.2) : SR C B (σ.set i (some v)) H (ρ.set i (.dp d)) G := by
  have ne : ∀ {j : Nat} {x : Sl}, (∀ d, x ≠ .dp d) → (ρ.set i (.dp d))[j]? = some x → j ≠ i ∧ ρ[j]? = some x := fun {j x} hx e => by
    rcases set_get e with ⟨_, z⟩ | z
    · exact (hx d z).elim
    · exact z
  refine ⟨s.gr, fun j t e => ?_, fun j t e => ?_, fun j k t u a hjk e1 e2 e3 e4 => ?_, by rw [List.length_set, List.length_set]; exact s.len, fun j y p e => ?_, ?_⟩
  · obtain ⟨n, e⟩ := ne (fun d z => by cases z) e
    obtain ⟨u, h1, h2⟩ := s.sh j t e
    exact ⟨u, by rw [List.getElem?_set_ne (Ne.symm n)]; exact h1, h2⟩
  · obtain ⟨n, e⟩ := ne (fun d z => by cases z) e
    obtain ⟨a, o, h1, h2⟩ := s.ow j t e
    exact ⟨a, o, by rw [List.getElem?_set_ne (Ne.symm n)]; exact h1, h2⟩
  · obtain ⟨n1, e1⟩ := ne (fun d z => by cases z) e1
    obtain ⟨n2, e2⟩ := ne (fun d z => by cases z) e2
    rw [List.getElem?_set_ne (Ne.symm n1)] at e3
    rw [List.getElem?_set_ne (Ne.symm n2)] at e4
    exact s.ds j k t u a hjk e1 e2 e3 e4
  · obtain ⟨n, e⟩ := ne (fun d z => by cases z) e
    obtain ⟨a, cls, dd, h1, h2, h3⟩ := s.xn j y p e
    exact ⟨a, cls, dd, h1, by rw [List.getElem?_set_ne (Ne.symm n)]; exact h2, h3⟩
  · obtain ⟨Fp, h1, h2, h3, h4⟩ := s.dp
    refine ⟨fun k => if k = i then F else Fp k, fun k e q => ?_, fun j k e1 e2 x hjk q1 q2 m1 m2 => ?_, fun k j e t a q1 q2 q3 => ?_, fun p mp e q => ?_⟩
    · rcases set_get q with ⟨rfl, z⟩ | ⟨n, z⟩
      · cases z
        have hl : k < ρ.length := by
          have := (List.getElem?_eq_some_iff.mp q).1
          simpa using this
        simp only [if_true]
        exact ⟨v, List.getElem?_set_self (by rw [← s.len]; exact hl), h, nd, hF⟩
      · obtain ⟨u, k1, k2, k3, k4⟩ := h1 k e z
        simp only [if_neg n]
        exact ⟨u, by rw [List.getElem?_set_ne (Ne.symm n)]; exact k1, k2, k3, k4⟩
    · simp only at m1 m2
      rcases set_get q1 with ⟨n1, z1⟩ | ⟨n1, z1⟩
      · rcases set_get q2 with ⟨n2, z2⟩ | ⟨n2, z2⟩
        · exact hjk (n1.trans n2.symm)
        · obtain ⟨u, k1, k2, _⟩ := h1 k e2 z2
          rw [if_pos n1] at m1
          rw [if_neg n2] at m2
          exact f1 k e2 u _ n2 z2 k1 k2 x m1 m2
      · rcases set_get q2 with ⟨n2, z2⟩ | ⟨n2, z2⟩
        · obtain ⟨u, k1, k2, _⟩ := h1 j e1 z1
          rw [if_neg n1] at m1
          rw [if_pos n2] at m2
          exact f1 j e1 u _ n1 z1 k1 k2 x m2 m1
        · rw [if_neg n1] at m1
          rw [if_neg n2] at m2
          exact h2 j k e1 e2 x hjk z1 z2 m1 m2
    · obtain ⟨nj, q2⟩ := ne (fun d z => by cases z) q2
      rw [List.getElem?_set_ne (Ne.symm nj)] at q3
      simp only
      rcases set_get q1 with ⟨n1, z1⟩ | ⟨n1, z1⟩
      · rw [if_pos n1]
        exact f2 j t a nj q2 q3
      · rw [if_neg n1]
        exact h3 k j e t a z1 q2 q3
    · rcases set_get q with ⟨n1, z1⟩ | ⟨n1, z1⟩
      · have hl : i < ρ.length := by
          have := (List.getElem?_eq_some_iff.mp q).1
          rw [n1] at this
          simpa using this
        rw [n1, List.getElem?_set_self (by rw [← s.len]; exact hl), hbi p mp n1]
      · rw [List.getElem?_set_ne (Ne.symm n1)]
        exact h4 p mp e z1
/-- .. a new one -/
theorem SR.setNewDp {H0 G0 : Hp} (s0 : SR C B σ H0 ρ G0) (g : Gr H0 G0 H G) (h : Dv C B.w H G d v F) (nd : F.Nodup) (hF : ∀ x ∈ F, H0 x = none ∧ G x = none) (hbi : ∀ p ∈ B.bi, p.1 = i → v = .ref p.2) : SR C B (σ.set i (some v)) H (ρ.set i (.dp d)) G :=
  (s0.ext g).setDp h nd (fun x m => ⟨fresh_back s0.gr.eh (hF x m).1, (hF x m).2⟩) (fun k e u F' _ q1 q2 q3 x m => s0.dpFree g (hF x m).1 k e u F' q1 q2 q3) (fun j t a _ q1 q2 m => by
    obtain ⟨b, o, k1, _, k3, _⟩ := s0.ow j t q1
    rw [k1] at q2
    cases q2
    rw [(hF a m).1] at k3
    cases k3) hbi
/-- the thing in a slot is changed -/
theorem SR.dpUpd (s : SR C B σ H ρ G) (e : ρ[i]? = some (.dp d)) (ev : σ[i]? = some (some v)) (hd : Dv C B.w H G d v F) (hk : ∀ x, x ∉ F → ∀ o, H x = some o → H' x = some o) (hd' : Dv C B.w H' G d' v F') (nd : F'.Nodup)
    (hF' : ∀ x ∈ F', x ∈ F ∨ H x = none) : SR C B σ H' (ρ.set i (.dp d')) G := by
  obtain ⟨Fp, h1, h2, h3, h4⟩ := s.dp
  obtain ⟨v', q1, q2, q3, q4⟩ := h1 i d e
  rw [ev] at q1
  cases q1
  have eF := hd.det (Ex.refl _) _ _ _ _ (fun x _ o z => z) q2
  subst eF
  have out : ∀ {x : Addr} {o : HO}, G x = some o → x ∉ Fp i := fun {x o} z m => by rw [(q4 x m).2] at z; cases z
  have gh : Ex G H' := fun x o z => hk x (out z) o (s.gr.gh x o z)
  refine ⟨⟨fun x o z => hk x (fun m => by rw [(q4 x m).1] at z; cases z) o (s.gr.eh x o z), s.gr.eg, gh, s.gr.sep⟩, fun j t z => ?_, fun j t z => ?_, fun j k t u a hjk z1 z2 z3 z4 => ?_, by rw [List.length_set]; exact s.len, fun j y p z => ?_, ?_⟩
  · rcases set_get z with ⟨_, w⟩ | ⟨_, w⟩
    · cases w
    · exact s.sh j t w
  · rcases set_get z with ⟨_, w⟩ | ⟨_, w⟩
    · cases w
    · obtain ⟨a, o, k1, k2, k3, k4⟩ := s.ow j t w
      exact ⟨a, o, k1, k2, hk a (h3 i j d t a e w k1) o k3, k4⟩
  · rcases set_get z1 with ⟨_, w⟩ | ⟨_, w1⟩
    · cases w
    · rcases set_get z2 with ⟨_, w⟩ | ⟨_, w2⟩
      · cases w
      · exact s.ds j k t u a hjk w1 w2 z3 z4
  · rcases set_get z with ⟨_, w⟩ | ⟨_, w⟩
    · cases w
    · exact s.xn j y p w
  · refine ⟨fun k => if k = i then F' else Fp k, fun k c z => ?_, fun j k c1 c2 x hjk z1 z2 m1 m2 => ?_, fun k j c t a z1 z2 z3 m => ?_, fun p mp c z => ?_⟩
    · rcases set_get z with ⟨rfl, w⟩ | ⟨n, w⟩
      · cases w
        simp only [if_true]
        refine ⟨v, ev, hd', nd, fun x m => ?_⟩
        rcases hF' x m with w | w
        · exact q4 x w
        · exact ⟨fresh_back s.gr.eh w, ex_none s.gr.gh w⟩
      · obtain ⟨u, k1, k2, k3, k4⟩ := h1 k c w
        simp only [if_neg n]
        exact ⟨u, k1, k2.mono (Ex.refl _) _ _ _ (fun x m o y => hk x (fun m2 => h2 k i c d x n w e m m2) o y), k3, k4⟩
    · simp only at m1 m2
      have old : ∀ {j : Nat} {c : D} {x : Addr}, ρ[j]? = some (.dp c) → x ∈ Fp j → j ≠ i → x ∉ F' := fun {j c x} w m n m2 => by
        rcases hF' x m2 with y | y
        · exact h2 j i c d x n w e m y
        · obtain ⟨u, _, k2, _⟩ := h1 j c w
          obtain ⟨o, ho⟩ := k2.there _ _ _ x m
          rw [y] at ho
          cases ho
      rcases set_get z1 with ⟨n1, w1⟩ | ⟨n1, w1⟩
      · rcases set_get z2 with ⟨n2, w2⟩ | ⟨n2, w2⟩
        · exact hjk (n1.trans n2.symm)
        · rw [if_pos n1] at m1
          rw [if_neg n2] at m2
          exact old w2 m2 n2 m1
      · rcases set_get z2 with ⟨n2, w2⟩ | ⟨n2, w2⟩
        · rw [if_neg n1] at m1
          rw [if_pos n2] at m2
          exact old w1 m1 n1 m2
        · rw [if_neg n1] at m1
          rw [if_neg n2] at m2
          exact h2 j k c1 c2 x hjk w1 w2 m1 m2
    · simp only at m
      rcases set_get z2 with ⟨_, w⟩ | ⟨_, w⟩
      · cases w
      · rcases set_get z1 with ⟨n1, w1⟩ | ⟨n1, w1⟩
        · rw [if_pos n1] at m
          rcases hF' a m with y | y
          · exact h3 i j d t a e w z3 y
          · obtain ⟨b, o, k1, _, k3, _⟩ := s.ow j t w
            rw [k1] at z3
            cases z3
            rw [y] at k3
            cases k3
        · rw [if_neg n1] at m
          exact h3 k j c t a w1 w z3 m
    · rcases set_get z with ⟨n1, w1⟩ | ⟨_, w1⟩
      · exact h4 p mp d (by rw [n1]; exact e)
      · exact h4 p mp c w1
end
end VS

/-! None asked of a dict whose keys are tuples -/
namespace VS
open PySem PySem.Spec PyProof.Rows L2 Evl
section
variable {prog : Program} {w : World} {A : Around} {E : Value → Shared → Prop} {s : Shared}
theorem quiet_refs {stored : List Value} {Q : Bool → Shared → Prop} (hst : ∀ v ∈ stored, ∃ k b, v = .ref b ∧ (nestedKind prog w).is s.heap k b) (h : Q false s) : wpAny (model prog w) A (tableMayTell .none stored) Q E s := by
  unfold tableMayTell
  split
  · exact wpAny_pure h
  · refine wpAny_bind (show wpAny _ _ (pure true) _ _ s from wpAny_pure ?_)
    simp only [Bool.not_true, Bool.false_eq_true, if_false]
    refine wpAny_bind ?_
    refine wpAny_forIn_list _ (fun rest r s' => s' = s ∧ r = (none, ()) ∧ ∀ v ∈ rest, ∃ k' b, v = .ref b ∧ (nestedKind prog w).is s.heap k' b) _ ?_ ?_ _ _ ⟨rfl, rfl, hst⟩
    · rintro x rest r s' ⟨rfl, rfl, hr⟩
      obtain ⟨k', b, rfl, hb⟩ := hr x List.mem_cons_self
      refine wpAny_bind ((nestedKind prog w).quiet hb ?_)
      simp only [Bool.not_true, Bool.false_eq_true, if_false]
      exact wpAny_pure ⟨rfl, rfl, fun v hv => hr v (List.mem_cons_of_mem _ hv)⟩
    · rintro r s' ⟨rfl, rfl, _⟩
      exact wpAny_pure h
theorem eq_none {k : NestedKey} {b : Addr} {Q : Bool → Shared → Prop} (hu : A.units + 8 < cLine) (hb : (nestedKind prog w).is s.heap k b) (h : Q false s) : wpAny (model prog w) A (eqBool (.ref b) .none) Q E s := by
  refine eqAt_key k .none A s _ _ hb.1 NestedIs.none (by have := hb.2; omega) _ _ _ _ ?_
  obtain ⟨hb, _⟩ := hb
  cases hb
  exact h
theorem find_none {d : Addr} {o : Obj} {es ep} {xs : List (NestedKey × Addr × Value)} {hh : Int} {Q : Option Nat → Shared → Prop} (hu : A.units + 8 < cLine)
    (ho : s.heap.get? d = some o) (hd : o.data = .dict es ep) (he : es.toList = xs.map (entryOfKey (nestedKind prog w))) (his : ∀ x ∈ xs, (nestedKind prog w).is s.heap x.1 x.2.1) (h : Q none s) :
    wpAny (model prog w) A (dictFind d .none hh) Q E s := by
  have hmem : ∀ e ∈ es, ∃ x ∈ xs, e = entryOfKey (nestedKind prog w) x := by
    intro e hin
    have : e ∈ xs.map (entryOfKey (nestedKind prog w)) := he ▸ Array.mem_toList_iff.mpr hin
    obtain ⟨x, hx, rfl⟩ := List.mem_map.mp this
    exact ⟨x, hx, rfl⟩
  have hst : ∀ v ∈ (placesWithHash es.size (fun i => es[i]?.map (·.hash)) hh).filterMap (fun i => es[i]?.map (·.key)), ∃ k' b, v = .ref b ∧ (nestedKind prog w).is s.heap k' b := by
    intro v hv
    obtain ⟨i, _, hi⟩ := List.mem_filterMap.mp hv
    cases hei : es[i]? with
    | none => rw [hei] at hi; cases hi
    | some e =>
      rw [hei] at hi
      obtain rfl : e.key = v := by simpa using hi
      obtain ⟨x, hx, rfl⟩ := hmem e (Array.mem_of_getElem? hei)
      exact ⟨x.1, x.2.1, rfl, his x hx⟩
  have turn : ∀ (i : Nat) (e : DictEntry), es[i]? = some e → ∃ k b, e.key = .ref b ∧ (nestedKind prog w).is s.heap k b := by
    intro i e hei
    obtain ⟨x, hx, rfl⟩ := hmem e (Array.mem_of_getElem? hei)
    exact ⟨x.1, x.2.1, rfl, his x hx⟩
  unfold dictFind
  try with_reducible refine wpAny_holding ?_
  refine wpAny_bind (wpAny_dictEntries ho hd ?_)
  dsimp only
  by_cases hc : ((Value.none :: (placesWithHash es.size (fun i => es[i]?.map (·.hash)) hh).filterMap (fun i => es[i]?.map (·.key))).all carriedByValue) = true
  · rw [if_pos hc]
    refine wpAny_bind ?_
    refine wpAny_forIn_list _ (fun rest r s' => s' = s ∧ r = (none, ())) _ ?_ ?_ _ _ ⟨rfl, rfl⟩
    · rintro x rest r s' ⟨rfl, rfl⟩
      cases hei : es[x]? with
      | none => exact wpAny_pure ⟨rfl, rfl⟩
      | some e =>
        obtain ⟨k, b, ek, hb⟩ := turn x e hei
        dsimp only
        split
        · rw [ek]
          refine wpAny_bind (wpAny_dictEpoch ho hd (wpAny_bind (eq_none hu hb (wpAny_bind (wpAny_dictEpoch ho hd ?_)))))
          show wpAny _ _ (if (ep != ep) = true then _ else _) _ E _
          rw [if_neg (by simp)]
          simp only [Bool.false_eq_true, if_false]
          exact wpAny_bind (wpAny_rule (wpAny_pure ⟨rfl, rfl⟩))
        · exact wpAny_pure ⟨rfl, rfl⟩
    · rintro r s' ⟨rfl, rfl⟩
      exact wpAny_pure h
  · rw [if_neg hc]
    have hne : ((placesWithHash es.size (fun i => es[i]?.map (·.hash)) hh).filterMap (fun i => es[i]?.map (·.key)) == [Value.none]) = false := by
      cases q : (placesWithHash es.size (fun i => es[i]?.map (·.hash)) hh).filterMap (fun i => es[i]?.map (·.key)) with
      | nil => rfl
      | cons v l =>
        obtain ⟨k, b, ev, _⟩ := hst v (by rw [q]; exact List.mem_cons_self)
        subst ev
        rfl
    rw [hne]
    simp only [Bool.false_eq_true, if_false]
    refine wpAny_bind (quiet_refs hst ?_)
    rw [if_neg (by simp)]
    refine wpAny_bind ?_
    refine wpAny_forIn_list _ (fun rest b s' => s' = s ∧ b = (none, none)) _ ?_ ?_ _ _ ⟨rfl, rfl⟩
    · rintro x rest b s' ⟨rfl, rfl⟩
      cases hei : es[x]? with
      | none => exact wpAny_pure ⟨rfl, rfl⟩
      | some e =>
        obtain ⟨k, bb, ek, hb⟩ := turn x e hei
        dsimp only
        split
        · rw [ek]
          refine wpAny_bind (wpAny_dictEpoch ho hd (wpAny_bind (eq_none hu hb (wpAny_bind (wpAny_dictEpoch ho hd ?_)))))
          show wpAny _ _ (if (ep != ep) = true then _ else _) _ E _
          rw [if_neg (by simp)]
          simp only [Bool.false_eq_true, if_false]
          refine wpAny_bind (wpAny_rule ?_)
          first | rw [if_neg (by simp)] | skip
          first
            | exact wpAny_pure ⟨rfl, rfl⟩
            | exact wpAny_bind (wpAny_pure (wpAny_pure ⟨rfl, rfl⟩))
        · exact wpAny_pure ⟨rfl, rfl⟩
    · rintro b s' ⟨rfl, rfl⟩
      exact wpAny_pure h
theorem in_none {d : Addr} {xs : List (NestedKey × Addr × Value)} {Q : Bool → Shared → Prop} (hu : A.in1.units + 8 < cLine) (hd : (d == sysModules) = false) (hm : s.heap.DictOfH (nestedKind prog w) d xs)
    (h : ∀ tk, Q false { s with toks := tk }) : wpAny (model prog w) A (contains (.ref d) .none) Q E s := by
  refine wpAny_contains_slot hm.typeIs F.slot_dict_contains ?_
  refine call_meetsIn F.slot_dict_contains hm.typeIs F.entry_dict_contains (F.args_dict_contains_2 _ _) (S := fun A' R s' => A' = A ∧ s' = s ∧ ∀ tk, R (.ok (.ret (.bool false))) { s with toks := tk }) (fun A' R s' hS => ?_) ⟨rfl, rfl, fun tk => wpAny_truthy_bool (h tk)⟩
  obtain ⟨rfl, rfl, hq⟩ := hS
  show wpAny _ _ (dictGet d .none >>= _) _ _ _
  refine wpAny_bind ?_
  obtain ⟨o, es, ep, ho, _, hdd, he, his, hn⟩ := hm
  unfold dictGet
  try with_reducible refine wpAny_holding ?_
  refine wpAny_bind (pyHash_key .none .none _ s' _ NestedIs.none (by show _ + 0 < cLine; omega) ?_)
  refine wpAny_bind (find_none (s := { s' with toks := s'.toks + NestedKey.none.draws }) hu ho hdd he his ?_)
  refine wpAny_pure ?_
  show wpAny _ _ (Builtin.Dict.pendingKey? d .none >>= _) _ _ _
  refine wpAny_bind (wpAny_pendingKey_other hd (wpAny_pure (hq _)))
end
end VS

namespace VS
open PySem PySem.Spec PyProof.Rows L2 Evl

/-! ### a dict of one's own with keys that are tuples: {}, d[k] = v, k in d, d[k], len(d) -/
section
variable {X : Cx} {B : BS} {W : WX} {a b k e : Expr} {fa fb fk fe : FE} {pos pos' p p2 : Pos} {i : Nat} {x : Str}
def tNdNew (w : World) : TE := fun _ H Q => ∀ d, H d = none → (d == sysModules) = false → Q (.ref d) (upd H d (NdO w d []))
theorem pe_ndnew : PE X (.Dict [] [] pos) (tNdNew X.w) := ⟨fun pins s σ H Q I h =>
  wpAny_Dict_empty ⟨.ref s.heap.objs.size, _, I.laid (a := s.heap.objs.size) (o := NdO X.w s.heap.objs.size []) (t' := s.toks) (fun _ _ q => Heap.get?_push_of_some _ q) (Nat.le_refl _) (nd_of (Heap.DictOfH.new s.heap)), rfl,
    h _ (I.hok.fresh (Nat.le_refl _)) (beq_eq_false_iff_ne.mpr (Nat.ne_of_gt I.big))⟩⟩
def sNewDt (i : Nat) : FS := fun ρ => .nx (ρ.set i (.dp (.dt [] [])))
theorem st_newDt (hN : X.N.Nodup) (hi : X.N[i]? = some x) (hx : Loc X.env.scope x) (hbi : B.bi.all (fun p => p.1 != i) = true := by rfl) (hw : B.w = X.w := by rfl) (hs : swapsWith (.Dict [] [] p) (some (.Name x pos')) pos.line X.env = pure false := by rfl) (hf : X.fn x = true ∨ X.env.scope.names.lookup x = some .local := by first | exact .inl rfl | exact .inr rfl | assumption) :
    DS X B W (.Assign [.Name x pos'] (.Dict [] [] p) pos) (sNewDt i) := PS.imp (ps_set hN hi hx pe_ndnew hs hf) fun D σ H ⟨ρ, G, s, q⟩ => fun d hd hm => by
  have g := Gr.own (o := NdO X.w d []) s.exGH hd
  refine q _ _ G (s.setNewDp g (F := [d]) ?_ (by simp) (fun x m => ?_) (fun p mp z => absurd z (by simpa using List.all_eq_true.mp hbi p mp))) (Ex.refl _)
  · unfold Dv
    refine ⟨d, [], [], rfl, hm, ?_, Nat.zero_le _, .nil, IsL.nil, .nil, IsL.nil, rfl⟩
    rw [hw]
    exact upd_same
  · rw [List.mem_singleton.mp m]
    exact ⟨hd, ex_none s.exGH hd⟩
/-- what such a dict is -/
structure NdI (C : KM) (w : World) (H G : Hp) (d : Addr) (ks ws : List T) (xs : List (NestedKey × Addr × Value)) (vs : List V) : Prop where
  ms : (d == sysModules) = false
  at_ : H d = some (NdO w d xs)
  sz : xs.length ≤ sizeLine
  ka : KeysAre ks xs
  ik : IsL C G ks (xs.map fun x => .ref x.2.1)
  rv : Vals vs (xs.map fun x => x.2.2)
  iv : IsL C G ws vs
theorem dt_open {C : KM} {w : World} {H G : Hp} {ks ws : List T} {v : V} {F : List Addr} (h : Dv C w H G (.dt ks ws) v F) : ∃ d xs vs, v = .ref d ∧ NdI C w H G d ks ws xs vs ∧ F = [d] := by
  unfold Dv at h
  obtain ⟨d, xs, vs, h1, h2, h3, h4, h5, h6, h7, h8, h9⟩ := h
  exact ⟨d, xs, vs, h1, ⟨h2, h3, h4, h5, h6, h7, h8⟩, h9⟩
theorem dt_close {C : KM} {w : World} {H G : Hp} {ks ws : List T} {d : Addr} {xs : List (NestedKey × Addr × Value)} {vs : List V} (h : NdI C w H G d ks ws xs vs) : Dv C w H G (.dt ks ws) (.ref d) [d] := by
  unfold Dv
  exact ⟨d, xs, vs, rfl, h.ms, h.at_, h.sz, h.ka, h.ik, h.rv, h.iv, rfl⟩
/-- k in d, by values -/
def ndHas (ks : List T) (k : T) : Option Bool := match k with
  | .non => some false
  | k => match tk? k with | some _ => some (ks.any fun z => tkEq z k) | none => none
theorem ndHas_of {ks : List T} {k : T} {b : Bool} (h : ndHas ks k = some b) : (k = .non ∧ b = false) ∨ ∃ key, tk? k = some key ∧ b = ks.any fun z => tkEq z k := by
  unfold ndHas at h
  split at h
  · cases h; exact .inl ⟨rfl, rfl⟩
  · split at h
    · rename_i key e
      cases h
      exact .inr ⟨key, e, rfl⟩
    · cases h
def rNdIn (X : Cx) (neg : Bool) : R2 := fun x y H Q => ∃ d ks ws xs vs G kt b, y = .ref d ∧ Ex G H ∧ NdI (km X) X.w H G d ks ws xs vs ∧ Is (km X) G kt x ∧ ndHas ks kt = some b ∧ Q (.bl (if neg then !b else b)) H
theorem op_ndIn (hu : X.A.units + 64 < cLine) : OpR X (compareOp .In) (rNdIn X false) := by
  intro pins s σ H y z v u Q I ry rz h
  obtain ⟨d, ks, ws, xs, vs, G, kt, bb, rfl, ex, n, ik, hk, q⟩ := h
  cases (show u = Value.ref d from rz)
  rcases ndHas_of hk with ⟨rfl, rfl⟩ | ⟨key, hk2, rfl⟩
  · unfold Is at ik
    subst ik
    cases (show v = Value.none from ry)
    refine (show wpAny (model X.prog X.w) X.A (do return Value.bool (← contains (.ref d) .none)) (EP X pins σ Q) X.xe s from wpAny_bind (in_none (show X.A.in1.units + 8 < cLine by show X.A.units + 1 + 8 < cLine; omega) n.ms (dt_h I ex n.at_ n.ka n.ik) fun tk => wpAny_pure ?_))
    exact ⟨.bl false, H, I.tok _, rfl, q⟩
  · obtain ⟨b, rfl, hb⟩ := key_is I ex ik hk2
    cases (show v = Value.ref b from ry)
    refine wpAny_in_heap (knd := nestedKind X.prog X.w) (show X.A.in1.units + 8 < cLine by show X.A.units + 1 + 8 < cLine; omega) hb n.ms (dt_h I ex n.at_ n.ka n.ik) ?_
    rw [← key_any hk2 n.ka]
    exact ⟨.bl (ks.any fun z => tkEq z kt), H, I.tok _, rfl, q⟩
theorem op_ndNotIn (hu : X.A.units + 64 < cLine) : OpR X (compareOp .NotIn) (rNdIn X true) := by
  intro pins s σ H y z v u Q I ry rz h
  obtain ⟨d, ks, ws, xs, vs, G, kt, bb, rfl, ex, n, ik, hk, q⟩ := h
  cases (show u = Value.ref d from rz)
  rcases ndHas_of hk with ⟨rfl, rfl⟩ | ⟨key, hk2, rfl⟩
  · unfold Is at ik
    subst ik
    cases (show v = Value.none from ry)
    refine (show wpAny (model X.prog X.w) X.A (do return Value.bool (!(← contains (.ref d) .none))) (EP X pins σ Q) X.xe s from wpAny_bind (in_none (show X.A.in1.units + 8 < cLine by show X.A.units + 1 + 8 < cLine; omega) n.ms (dt_h I ex n.at_ n.ka n.ik) fun tk => wpAny_pure ?_))
    exact ⟨.bl true, H, I.tok _, rfl, q⟩
  · obtain ⟨b, rfl, hb⟩ := key_is I ex ik hk2
    cases (show v = Value.ref b from ry)
    refine wpAny_notIn_heap (knd := nestedKind X.prog X.w) (show X.A.in1.units + 8 < cLine by show X.A.units + 1 + 8 < cLine; omega) hb n.ms (dt_h I ex n.at_ n.ka n.ik) ?_
    rw [← key_any hk2 n.ka]
    exact ⟨.bl (!(ks.any fun z => tkEq z kt)), H, I.tok _, rfl, q⟩
def eDtIn (neg : Bool) (i : Nat) (fa : FE) : FE := fun ρ => (fa ρ).bind fun k => match ρ[i]? with
  | some (.dp (.dt ks _)) => (match ndHas ks k with | some b => .ok (.bl (if neg then !b else b)) | none => .bad)
  | _ => .bad
theorem ndIn_of {neg : Bool} {σ : L2.St} {H G : Hp} {ρ : Ev'} {Q : VK} (s : SR (km X) B σ H ρ G) (hw : B.w = X.w) (q : Post (km X) .E W σ H G (eDtIn neg i fa ρ) Q) : tOp (rNdIn X neg) (tM (km X) B .E W fa) (tVar i) σ H Q :=
  bindE s q fun kt v H1 G1 g s1 ik p1 => by
    split at p1
    · rename_i ks ws e
      split at p1
      · rename_i b hk
        obtain ⟨v', F, q1, q2, _, _⟩ := s1.dpAt e
        obtain ⟨d, xs, vs, rfl, n, _⟩ := dt_open q2
        rw [hw] at n
        exact ⟨.ref d, q1, d, ks, ws, xs, vs, G1, kt, b, rfl, s1.exGH, n, ik, hk, qE p1 s1.exGH Is.blI⟩
      · exact p1.elim
    · exact p1.elim
theorem d_ndIn (hu : X.A.units + 64 < cLine) (ha : DE X B W .E a fa) (hN : X.N[i]? = some x) (hv : Vis X.env.scope x) (hd : (x == ("__debug__" : Str)) = false := by decide) (hcd : (x == ("__classdict__" : Str)) = false := by decide) (hw : B.w = X.w := by rfl)
    (hm : behindInMarks .In (.Name x p) = false := by rfl) : DE X B W .E (.Compare a [.In] [.Name x p] pos) (eDtIn false i fa) :=
  PE.imp (pe_cmpR (op_ndIn hu) ha (pe_var hN hv hd hcd) hm) fun σ H Q ⟨ρ, G, s, q⟩ => ndIn_of s hw q
theorem t_ndIn (hu : X.A.units + 64 < cLine) (ha : DE X B W .E a fa) (hN : X.N[i]? = some x) (hv : Vis X.env.scope x) (hd : (x == ("__debug__" : Str)) = false := by decide) (hcd : (x == ("__classdict__" : Str)) = false := by decide) (hw : B.w = X.w := by rfl)
    (hm : behindInMarks .In (.Name x p) = false := by rfl) : DT X B W (.Compare a [.In] [.Name x p] pos) (eDtIn false i fa) :=
  PT.imp (pt_cmpR (op_ndIn hu) ha (pe_var hN hv hd hcd) hm) fun σ H Q ⟨ρ, G, s, q⟩ => ndIn_of s hw (q.post (.inl rfl))
theorem d_ndNin (hu : X.A.units + 64 < cLine) (ha : DE X B W .E a fa) (hN : X.N[i]? = some x) (hv : Vis X.env.scope x) (hd : (x == ("__debug__" : Str)) = false := by decide) (hcd : (x == ("__classdict__" : Str)) = false := by decide) (hw : B.w = X.w := by rfl)
    (hm : behindInMarks .NotIn (.Name x p) = false := by rfl) : DE X B W .E (.Compare a [.NotIn] [.Name x p] pos) (eDtIn true i fa) :=
  PE.imp (pe_cmpR (op_ndNotIn hu) ha (pe_var hN hv hd hcd) hm) fun σ H Q ⟨ρ, G, s, q⟩ => ndIn_of s hw q
theorem t_ndNin (hu : X.A.units + 64 < cLine) (ha : DE X B W .E a fa) (hN : X.N[i]? = some x) (hv : Vis X.env.scope x) (hd : (x == ("__debug__" : Str)) = false := by decide) (hcd : (x == ("__classdict__" : Str)) = false := by decide) (hw : B.w = X.w := by rfl)
    (hm : behindInMarks .NotIn (.Name x p) = false := by rfl) : DT X B W (.Compare a [.NotIn] [.Name x p] pos) (eDtIn true i fa) :=
  PT.imp (pt_cmpR (op_ndNotIn hu) ha (pe_var hN hv hd hcd) hm) fun σ H Q ⟨ρ, G, s, q⟩ => ndIn_of s hw (q.post (.inl rfl))
/-- len(d) -/
def eDtLen (i : Nat) : FE := fun ρ => match ρ[i]? with | some (.dp (.dt ks _)) => .ok (.int ks.length) | _ => .bad
def rNdLen (X : Cx) : List V → Hp → VK → Prop := fun us H Q => ∃ d ks ws xs vs G, us = [.ref d] ∧ Ex G H ∧ NdI (km X) X.w H G d ks ws xs vs ∧ Q (.int ks.length) H
theorem c_ndLen : CallR X (.builtin "len") (rNdLen X) := by
  intro pins s σ H ys us Q I r h
  obtain ⟨d, ks, ws, xs, vs, G, rfl, ex, n, q⟩ := h
  cases r with
  | cons r rr =>
    cases rr
    cases r
    have hz := n.sz
    have hl : ks.length = xs.length := Paired.len n.ka
    refine call_len_dictH (knd := nestedKind X.prog X.w) n.ms (dt_h I ex n.at_ n.ka n.ik) (by rw [sizeLine_eq] at hz; omega) ?_
    exact ⟨.int ks.length, H, I.tok _, ⟨_, by rw [hl]⟩, q⟩
theorem d_ndLen (hg : Gl X "len") (hm : X.mg "len" = none) (hN : X.N[i]? = some x) (hv : Vis X.env.scope x) (hd : (x == ("__debug__" : Str)) = false := by decide) (hcd : (x == ("__classdict__" : Str)) = false := by decide) (hw : B.w = X.w := by rfl)
    (he : starEach [.Name x p2] X.env = (false, eval (.Name x p2) X.env) :: starEach [] X.env := by rfl) : DE X B W .E (.Call (.Name "len" p) [.Name x p2] [] pos) (eDtLen i) :=
  PE.imp (pe_callB c_ndLen hg hm PySem.boot_len (pa_cons (pe_var hN hv hd hcd) pa_nil he) (by decide) (by decide) he rfl) fun σ H Q ⟨ρ, G, s, q⟩ => by
    unfold eDtLen at q
    split at q
    · rename_i ks ws e
      obtain ⟨v', F, q1, q2, _, _⟩ := s.dpAt e
      obtain ⟨d, xs, vs, rfl, n, _⟩ := dt_open q2
      rw [hw] at n
      exact ⟨.ref d, q1, d, ks, ws, xs, vs, G, rfl, s.exGH, n, qE q s.exGH Is.intI⟩
    · exact q.elim
/-- d[k] -/
def eDtGet (i : Nat) (fk : FE) : FE := fun ρ => match ρ[i]? with
  | some (.dp (.dt ks ws)) => (fk ρ).bind fun k => (match tk? k with | some _ => Res.of (lookK ks ws k) | none => .bad)
  | _ => .bad
theorem d_ndGet (hu : X.A.units + 64 < cLine) (hk : DE X B W .E k fk) (hN : X.N[i]? = some x) (hv : Vis X.env.scope x) (hd : (x == ("__debug__" : Str)) = false := by decide) (hcd : (x == ("__classdict__" : Str)) = false := by decide) (hw : B.w = X.w := by rfl)
    (hs : NoSl k := by exact fun _ _ => rfl) : DE X B W .E (.Subscript (.Name x p) k pos) (eDtGet i fk) := by
  refine ⟨fun pins s σ H Q I ⟨ρ, G, sr, q⟩ => ?_⟩
  unfold eDtGet at q
  split at q
  · rename_i ks ws e
    obtain ⟨v', F, q1, q2, _, _⟩ := sr.dpAt e
    refine subD_of PySem.F.slot_dict_getitem.lookup hs (thn ((pe_var (X := X) hN hv hd hcd).run pins s σ H (fun v H1 => H1 = H ∧ v = v') I ⟨v', q1, rfl, rfl⟩) fun u s1 ⟨v, H1, I1, rv, eH, ev⟩ => ?_)
    subst eH ev
    obtain ⟨d, xs0, vs0, rfl, _, _⟩ := dt_open q2
    cases (show u = Value.ref d from rv)
    refine thn (hk.run pins s1 σ H1 (fun y H2 => ∃ kt G2 key t xs vs, Ex G2 H2 ∧ NdI (km X) X.w H2 G2 d ks ws xs vs ∧ Is (km X) G2 kt y ∧ tk? kt = some key ∧ lookK ks ws kt = some t ∧ ∀ z, Is (km X) G2 t z → Q z H2) I1 (bindE sr q fun kt y H2 G2 g s2 ik p1 => ?_)) fun iv s2 ⟨y, H2, I2, ry, kt, G2, key, t, xs, vs, ex, n, ik, hk', hl, q⟩ => ?_
    · cases ek : tk? kt with
      | none => rw [ek] at p1; exact p1.elim
      | some key =>
        rw [ek] at p1
        obtain ⟨t, el, q3⟩ := p1.of
        obtain ⟨v2, F2, k1, k2, _, _⟩ := s2.dpAt e
        rw [q1] at k1
        cases k1
        obtain ⟨d2, xs, vs, e2, n, _⟩ := dt_open k2
        cases e2
        rw [hw] at n
        exact ⟨kt, G2, key, t, xs, vs, s2.exGH, n, ik, ek, el, fun z iz => qE q3 s2.exGH iz⟩
    · obtain ⟨b, rfl, hb⟩ := key_is I2 ex ik hk'
      cases (show iv = Value.ref b from ry)
      obtain ⟨p', v, e1, e2, e3⟩ := key_at hk' n.ka n.rv n.iv hl
      have dd := dt_h I2 ex n.at_ n.ka n.ik
      exact ⟨dd.typeIs, wpAny_getItem_heap (knd := nestedKind X.prog X.w) (show X.A.in1.units + 8 < cLine by show X.A.units + 1 + 8 < cLine; omega) hb dd e1 ⟨v, H2, I2.tok _, e2, q v e3⟩⟩
  · exact q.elim
/-- d[k] = v -/
def sDtPut (i : Nat) (fk fe : FE) : FS := fun ρ => sLift ρ (fe ρ) fun w => match ρ[i]? with
  | some (.dp (.dt ks ws)) => sLift ρ (fk ρ) fun k => (match tk? k with | some _ => if ks.length < 100000 then .nx (ρ.set i (.dp (.dt (putK2 ks ws k w).1 (putK2 ks ws k w).2))) else .bad | none => .bad)
  | _ => .bad
theorem st_ndPut (hu : X.A.units + 64 < cLine) (he : DE X B W .E e fe) (hk : DE X B W .E k fk) (hN : X.N[i]? = some x) (hv : Vis X.env.scope x) (hd : (x == ("__debug__" : Str)) = false := by decide) (hcd : (x == ("__classdict__" : Str)) = false := by decide) (hw : B.w = X.w := by rfl)
    (hs : swapsWith e (some (.Subscript (.Name x p) k pos')) pos.line X.env = pure false := by rfl) : DS X B W (.Assign [.Subscript (.Name x p) k pos'] e pos) (sDtPut i fk fe) := by
  refine ⟨fun pins s σ H D I ⟨ρ, G, sr, q⟩ => ?_⟩
  unfold sDtPut at q
  refine wpAny_Assign_Subscript (thn (he.run pins s σ H (fun v H1 => ∃ w ks ws G1, SR (km X) B σ H1 ρ G1 ∧ Is (km X) G1 w v ∧ ρ[i]? = some (.dp (.dt ks ws)) ∧ PostS (km X) B W D G1 (sLift ρ (fk ρ) fun k => (match tk? k with | some _ => if ks.length < 100000 then .nx (ρ.set i (.dp (.dt (putK2 ks ws k w).1 (putK2 ks ws k w).2))) else .bad | none => .bad))) I
    (bindSt (m := .E) sr q fun w v H1 G1 g s1 iw p1 => ?_)) fun r s1 ⟨v, H1, I1, rv, w, ks, ws, G1, sr1, iw, e0, p1⟩ => ?_) hs
  · split at p1
    · rename_i ks ws e0
      exact ⟨w, ks, ws, G1, s1, iw, e0, p1⟩
    · exact p1.elim
  · obtain ⟨v0, F0, k1, k2, _, _⟩ := sr1.dpAt e0
    refine thn ((pe_var (X := X) hN hv hd hcd).run pins s1 σ H1 (fun v H2 => H2 = H1 ∧ v = v0) I1 ⟨v0, k1, rfl, rfl⟩) fun u s2 ⟨v2, H2, I2, r2, eH, ev⟩ => ?_
    subst eH ev
    obtain ⟨d, xs0, vs0, rfl, _, _⟩ := dt_open k2
    cases (show u = Value.ref d from r2)
    refine thn (hk.run pins s2 σ H2 (fun y H3 => ∃ kt G3 key, SR (km X) B σ H3 ρ G3 ∧ Is (km X) G3 w v ∧ Is (km X) G3 kt y ∧ tk? kt = some key ∧ ks.length < 100000 ∧ PostS (km X) B W D G3 (.nx (ρ.set i (.dp (.dt (putK2 ks ws kt w).1 (putK2 ks ws kt w).2))))) I2 (bindSt (m := .E) sr1 p1 fun kt y H3 G3 g s3 ik p3 => ?_))
      fun iv s3 ⟨y, H3, I3, ry, kt, G3, key, sr3, iw3, ik, ek, hl, p3⟩ => ?_
    · split at p3
      · rename_i key ek
        split at p3
        · rename_i hl
          exact ⟨kt, G3, key, s3, Is.mono g.eg _ _ iw, ik, ek, hl, p3⟩
        · exact p3.elim
      · exact p3.elim
    · obtain ⟨b, rfl, hb⟩ := key_is I3 sr3.exGH ik ek
      cases (show iv = Value.ref b from ry)
      obtain ⟨v2, F2, q1, q2, _, qF⟩ := sr3.dpAt e0
      rw [k1] at q1
      cases q1
      obtain ⟨d2, xs, vs, e2, n, eF⟩ := dt_open q2
      cases e2
      have n0 := n
      rw [hw] at n
      have dd := dt_h I3 sr3.exGH n.at_ n.ka n.ik
      have hlen : ks.length = xs.length := Paired.len n.ka
      refine wpAny_setItem_heap (knd := nestedKind X.prog X.w) (hsz := n.sz) (show X.A.in1.units + 8 < cLine by show X.A.units + 1 + 8 < cLine; omega) hb dd fun h' dd' hsb => ?_
      have he : ∃ q, h'.get? d = some q := let ⟨q, _, _, hq, _⟩ := dd'; ⟨q, hq⟩
      have I4 := d_write (t' := s3.toks + (nestedKind X.prog X.w).draws key) I3 (by rw [n.at_]; exact True.intro) hsb he (nd_of dd')
      refine ⟨σ, _, I4, p3 σ _ G3 (sr3.dpUpd e0 k1 q2 (fun x m o z => ?_) (F' := [d]) ?_ (by simp) (fun x m => .inl (by rw [eF]; exact m))) (Ex.refl _)⟩
      · rw [upd_ne (fun c => m (by rw [eF, c]; simp))]
        exact z
      · obtain ⟨p1', p2', vs', p3', p4'⟩ := put_is ek ik rv iw3 n.ka n.ik n.rv n.iv
        refine dt_close ⟨n.ms, ?_, ?_, p1', p2', p3', p4'⟩
        · rw [hw]
          exact upd_same
        · have := stored_len xs key b r
          have hz := sz_of (show xs.length + 1 ≤ 100000 by omega)
          omega
end
end VS

namespace VS
open PySem PySem.Spec PyProof.Rows L2 Evl

/-! ### in a dict with keys that are ints or texts -/
section
variable {C : KM} {G H : Hp}
theorem flat_any {y : T} {j : Key} (hy : isKey y = true) (h' : IsS C H G y (kV j)) : ∀ {ks : List T} {kvs : List (Key × V)}, ks.all isKey = true → IsL C G ks (kvs.map fun p => kV p.1) → (ks.any fun k => keyEq k y) = kvs.any fun kv => decide (kv.1 = j)
  | [], kvs, _, hk => by
    unfold IsL at hk
    cases kvs with
    | nil => rfl
    | cons p r => cases hk
  | k :: ks, kvs, ha, hk => by
    have ha' := Bool.and_eq_true_iff.mp (by simpa only [List.all_cons] using ha)
    cases kvs with
    | nil =>
      unfold IsL at hk
      obtain ⟨_, _, z, _⟩ := hk
      cases z
    | cons p r =>
      unfold IsL at hk
      obtain ⟨v1, r1, e1, k1, k2⟩ := hk
      obtain ⟨rfl, rfl⟩ := List.cons.inj e1
      rw [List.any_cons, List.any_cons, keyEq_of ha'.1 hy k1 h', flat_any hy h' ha'.2 k2]
end
def gDIn (neg : Bool) (x y : T) : Option T := match y with
  | .dic ks _ => if isKey x && ks.all isKey then some (.bl (if neg then !(ks.any fun k => keyEq k x) else ks.any fun k => keyEq k x)) else none
  | _ => none
section
variable {X : Cx}
theorem o_dIn (hu : X.A.units + 64 < cLine) : OpR X (compareOp .In) (rG (km X) .E (gDIn false)) := by
  intro pins s σ H v u a b Q I ra rb h
  obtain ⟨x, y, G, t, ex, ix, iy, e, q⟩ := h
  cases y with
  | dic ks ws =>
    simp only [gDIn] at e
    split at e
    · rename_i c
      have c' := Bool.and_eq_true_iff.mp c
      obtain rfl := Option.some.inj e
      obtain ⟨d, kvs, rfl, h1, h2, h3⟩ := iy.dic ex
      obtain ⟨j, rfl⟩ := key_of c'.1 ix
      cases (show b = Value.ref d from rb)
      have ea := flat_any c'.1 ix c'.2 h2
      rw [valV_any] at ea
      refine d_in (by omega) I (DGet.k h1) ra fun s' I' => ⟨.bl (valV kvs j).isSome, H, I', rfl, ?_⟩
      rw [← ea]
      exact qE q ex Is.blI
    · cases e
  | _ => cases e
theorem o_dNotIn (hu : X.A.units + 64 < cLine) : OpR X (compareOp .NotIn) (rG (km X) .E (gDIn true)) := by
  intro pins s σ H v u a b Q I ra rb h
  obtain ⟨x, y, G, t, ex, ix, iy, e, q⟩ := h
  cases y with
  | dic ks ws =>
    simp only [gDIn] at e
    split at e
    · rename_i c
      have c' := Bool.and_eq_true_iff.mp c
      obtain rfl := Option.some.inj e
      obtain ⟨d, kvs, rfl, h1, h2, h3⟩ := iy.dic ex
      obtain ⟨j, rfl⟩ := key_of c'.1 ix
      cases (show b = Value.ref d from rb)
      have ea := flat_any c'.1 ix c'.2 h2
      rw [valV_any] at ea
      refine d_notIn (by omega) I (DGet.k h1) ra fun s' I' => ⟨.bl (!(valV kvs j).isSome), H, I', rfl, ?_⟩
      rw [← ea]
      exact qE q ex Is.blI
    · cases e
  | _ => cases e
end

/-! ### the table of such a dict -/
def putD (ks ws : List T) (k w : T) : List T × List T :=
  if ks.any (fun x => keyEq x k) then (ks, List.zipWith (fun x y => if keyEq x k then w else y) ks ws) else (ks ++ [k], ws ++ [w])
section
variable {C : KM} {G : Hp}
theorem putD_map {k w : T} {j : Key} {v : V} (hk : isKey k = true) (ik : Is C G k (kV j)) (iw : Is C G w v) : ∀ {ks ws : List T} {kvs : List (Key × V)}, ks.all isKey = true → IsL C G ks (kvs.map fun p => kV p.1) → IsL C G ws (kvs.map fun p => p.2) →
    IsL C G ks ((kvs.map fun kv => if kv.1 = j then (kv.1, v) else kv).map fun p => kV p.1) ∧ IsL C G (List.zipWith (fun x y => if keyEq x k then w else y) ks ws) ((kvs.map fun kv => if kv.1 = j then (kv.1, v) else kv).map fun p => p.2)
  | [], ws, kvs, _, hi, hw => by
    unfold IsL at hi
    cases kvs with
    | nil => exact ⟨IsL.nil, by rw [List.zipWith_nil_left]; exact IsL.nil⟩
    | cons p r => cases hi
  | k0 :: ks, ws, kvs, ha, hi, hw => by
    have ha' := Bool.and_eq_true_iff.mp (by simpa only [List.all_cons] using ha)
    cases kvs with
    | nil =>
      unfold IsL at hi
      obtain ⟨_, _, z, _⟩ := hi
      cases z
    | cons p r =>
      cases ws with
      | nil =>
        unfold IsL at hw
        cases hw
      | cons w0 ws =>
        unfold IsL at hi hw
        obtain ⟨v1, r1, e1, k1, k2⟩ := hi
        obtain ⟨v2, r2, e2, w1, w2⟩ := hw
        obtain ⟨rfl, rfl⟩ := List.cons.inj e1
        obtain ⟨rfl, rfl⟩ := List.cons.inj e2
        obtain ⟨q1, q2⟩ := putD_map hk ik iw ha'.2 k2 w2
        have eq := keyEq_of (H := G) ha'.1 hk k1 (.inl ik)
        rw [List.zipWith_cons_cons, eq, List.map_cons]
        by_cases c : p.1 = j
        · rw [if_pos c, decide_eq_true c]
          exact ⟨IsL.cons k1 q1, IsL.cons iw q2⟩
        · rw [if_neg c, decide_eq_false c]
          exact ⟨IsL.cons k1 q1, IsL.cons w1 q2⟩
theorem putD_is {k w : T} {j : Key} {v : V} {ks ws : List T} {kvs : List (Key × V)} (hk : isKey k = true) (ik : Is C G k (kV j)) (iw : Is C G w v) (ha : ks.all isKey = true) (hi : IsL C G ks (kvs.map fun p => kV p.1)) (hw : IsL C G ws (kvs.map fun p => p.2)) :
    IsL C G (putD ks ws k w).1 ((putK kvs j v).map fun p => kV p.1) ∧ IsL C G (putD ks ws k w).2 ((putK kvs j v).map fun p => p.2) ∧ (putD ks ws k w).1.all isKey = true := by
  have ea := flat_any (H := G) hk (.inl ik) ha hi
  unfold putD putK
  rw [ea]
  by_cases c : (kvs.any fun kv => decide (kv.1 = j)) = true
  · rw [if_pos c, if_pos c]
    obtain ⟨q1, q2⟩ := putD_map hk ik iw ha hi hw
    exact ⟨q1, q2, ha⟩
  · rw [if_neg c, if_neg c]
    refine ⟨?_, ?_, ?_⟩
    · rw [List.map_append]
      exact hi.app (IsL.one ik)
    · rw [List.map_append]
      exact hw.app (IsL.one iw)
    · show (ks ++ [k]).all isKey = true
      rw [List.all_append, ha]
      simpa using hk
end

/-! ### {k: v for target in iter if ..}, keys ints or texts -/
def ePair (fk fv : FE) : FE := fun ρ => (fk ρ).bind fun k => (fv ρ).bind fun v => .ok (.tup [k, v])
def dOf (s : Option (List T × List T)) (t : T) : Option (List T × List T) := match s, t with
  | some (ks, ws), .tup [k, w] => if isKey k then some (putD ks ws k w) else none
  | _, _ => none
def dFold (ts : List T) : Option (List T × List T) := ts.foldl dOf (some ([], []))
theorem dOf_none (ts : List T) : ts.foldl dOf none = none := by
  induction ts with
  | nil => rfl
  | cons t r ih => exact ih
theorem dFold_pre {ts us : List T} {p : List T × List T} (h : dFold (ts ++ us) = some p) : ∃ q, dFold ts = some q := by
  unfold dFold at h ⊢
  rw [List.foldl_append] at h
  cases e : ts.foldl dOf (some ([], [])) with
  | some q => exact ⟨q, rfl⟩
  | none => rw [e, dOf_none] at h; cases h
theorem dFold_snoc (ts : List T) (t : T) : dFold (ts ++ [t]) = dOf (dFold ts) t := by
  unfold dFold
  rw [List.foldl_append]
  rfl
def eDComp (fi : FI) (g : Tg) (own : List Nat) (fc fk fv : FE) : FE := fun ρ => (fi ρ).bind fun l => (compF g fc (ePair fk fv) l (wipeE ρ own)).bind fun ts => match dFold ts with
  | some (ks, ws) => if ts.length ≤ 99999 then .ok (.dic ks ws) else .bad
  | none => .bad
def dAcc (C : KM) (G : Hp) (us : List T) (o : HO) : Prop := ∃ (ks ws : List T) (kvs : List (Key × V)), dFold us = some (ks, ws) ∧ ks.all isKey = true ∧ o = .dK kvs ∧ IsL C G ks (kvs.map fun p => kV p.1) ∧ IsL C G ws (kvs.map fun p => p.2) ∧ kvs.length ≤ us.length
theorem dAcc_mono {C : KM} : ∀ G G' us o, Ex G G' → dAcc C G us o → dAcc C G' us o := fun G G' us o e ⟨ks, ws, kvs, h1, h2, h3, h4, h5, h6⟩ => ⟨ks, ws, kvs, h1, h2, h3, IsL.mono e _ _ h4, IsL.mono e _ _ h5, h6⟩
section
variable {X : Cx} {B : BS} {W : WX} {tg iter kx vx : Expr} {ifs : List Expr} {scope : Scope} {own : List (Str × Nat)} {pos p p2 : Pos} {fi : FI} {g : Tg} {fc fk fv : FE}
theorem d_dcomp (hc : X.calm = true) (hN : X.N.Nodup) (hi : DI X B W tg iter fi) (ok : BlkOk X.N X.env.scope scope own) (hw : ∀ i ∈ tgs g, i ∈ own.map (·.2))
    (hg : ∀ (s : Shared) (H : Hp) (C : Addr) (cl : List (Str × Addr)) (fp : List Addr), DG (X.blk s H scope (compEnvC scope cl C X.env) fp) tg g)
    (ht : ∀ (s : Shared) (H : Hp) (C : Addr) (cl : List (Str × Addr)) (fp : List Addr), DTs (X.blk s H scope (compEnvC scope cl C X.env) fp) B W0 ifs fc)
    (hk : ∀ (s : Shared) (H : Hp) (C : Addr) (cl : List (Str × Addr)) (fp : List Addr), DE (X.blk s H scope (compEnvC scope cl C X.env) fp) B W0 .E kx fk)
    (hv : ∀ (s : Shared) (H : Hp) (C : Addr) (cl : List (Str × Addr)) (fp : List Addr), DE (X.blk s H scope (compEnvC scope cl C X.env) fp) B W0 .E vx fv) (hs : ∀ x, foldedSetIterable iter X.env x = pure x := by intro _; rfl) :
    DE X B W .N (.DictComp kx vx [⟨tg, iter, ifs, 0⟩] scope pos) (eDComp fi g (own.map (·.2)) fc fk fv) := by
  refine PE.imp (pe_dc (g := tG X.K g) (tt := tMT (km X) B W0 fc) (tk := tM (km X) B .E W0 fk) (tv := tM (km X) B .E W0 fv) hc hN hi ok hg ht hk hv hs) fun σ H Q ⟨ρ, G, s, q⟩ => ?_
  refine ⟨ρ, G, s, ?_⟩
  unfold eDComp at q
  cases ei : fi ρ with
  | bad => rw [ei] at q; exact q
  | ex x p' => rw [ei] at q; exact q
  | ok l =>
    rw [ei] at q
    intro J H1 G1 g1 wk D hD
    have q1 : Post (km X) .N W σ H G ((compF g fc (ePair fk fv) l (wipeE ρ (own.map (·.2)))).bind fun ts => match dFold ts with | some (ks, ws) => if ts.length ≤ 99999 then .ok (.dic ks ws) else .bad | none => .bad) Q := q
    cases ec : compF g fc (ePair fk fv) l (wipeE ρ (own.map (·.2))) with
    | bad => rw [ec] at q1; exact q1.elim
    | ex x p' => exact (compF_noex _ _ _ ec).elim
    | ok ts =>
      rw [ec] at q1
      have q2 : Post (km X) .N W σ H G (match dFold ts with | some (ks, ws) => if ts.length ≤ 99999 then .ok (.dic ks ws) else .bad | none => .bad) Q := q1
      cases et : dFold ts with
      | none => rw [et] at q2; exact q2.elim
      | some kw =>
        obtain ⟨ks, ws⟩ := kw
        rw [et] at q2
        have q3 : Post (km X) .N W σ H G (if ts.length ≤ 99999 then .ok (.dic ks ws) else .bad) Q := q2
        split at q3
        · rename_i hl
          have s1 := s.ext g1
          refine comp_gen (C := km X) (Qd := Q (.ref D)) (dAcc (km X)) dAcc_mono hw wk s1 hD ?_ ec hl ?_ ?_
          · exact ⟨[], [], [], rfl, rfl, rfl, IsL.nil, IsL.nil, Nat.le_refl _⟩
          · intro σ3 H4 ρ1 G4 t tacc acc Nx s3 efe hD4 hA hlt hpre nx
            obtain ⟨r, hr⟩ := hpre
            obtain ⟨ks0, ws0, kvs, h1, h2, rfl, h4, h5, h6⟩ := hA
            have hf : ∃ p, dFold (tacc ++ [t]) = some p := by
              rw [← hr, show tacc ++ t :: r = (tacc ++ [t]) ++ r by simp] at et
              exact dFold_pre et
            unfold ePair at efe
            refine ⟨ρ1, G4, s3, ?_⟩
            cases ek : fk ρ1 with
            | bad => rw [ek] at efe; cases efe
            | ex _ _ => rw [ek] at efe; cases efe
            | ok k =>
              rw [ek] at efe
              intro v H5 G5 g5 ik
              refine ⟨ρ1, G5, s3.ext g5, ?_⟩
              have efe' : ((fv ρ1).bind fun v => Res.ok (T.tup [k, v])) = .ok t := efe
              cases ev : fv ρ1 with
              | bad => rw [ev] at efe'; cases efe'
              | ex _ _ => rw [ev] at efe'; cases efe'
              | ok w =>
                rw [ev] at efe'
                cases efe'
                intro z H6 G6 g6 iz
                obtain ⟨p, hp⟩ := hf
                rw [dFold_snoc, h1] at hp
                have hp' : (if isKey k then some (putD ks0 ws0 k w) else none) = some p := hp
                split at hp'
                · rename_i ck
                  have ik' : Is (km X) G5 k v := ik
                  obtain ⟨j, rfl⟩ := key_of (H := G5) ck (.inl ik')
                  have eG : Ex G4 G6 := g5.eg.trans g6.eg
                  obtain ⟨a1, a2, a3⟩ := putD_is ck (Is.mono g6.eg _ _ ik') (show Is (km X) G6 w z from iz) h2 (IsL.mono eG _ _ h4) (IsL.mono eG _ _ h5)
                  have hl2 := length_putK kvs j z
                  refine ⟨kvs, j, rfl, g6.eh _ _ (g5.eh _ _ hD4), sz_lt (by omega), nx H6 G6 _ (g5.trans g6) (g6.eh _ _ (g5.eh _ _ hD4)) ⟨(putD ks0 ws0 k w).1, (putD ks0 ws0 k w).2, putK kvs j z, ?_, a3, rfl, a1, a2, ?_⟩⟩
                  · rw [dFold_snoc, h1]
                    exact if_pos ck
                  · rw [List.length_append, List.length_singleton]
                    omega
                · cases hp'
          · intro H' G' acc gr hA' hn ⟨ks1, ws1, kvs, h1, h2, e, h4, h5, h6⟩
            subst e
            rw [et] at h1
            cases h1
            exact q3 _ H' G' (g1.trans gr) ⟨D, _, rfl, fresh_back g1.eh hD, hA', hn, kvs, rfl, h4, h5⟩
        · exact q3.elim
end

/-! ### xs.insert(i, e), xs one's own -/
def sIns (i : Nat) (fi fa : FE) : FS := fun ρ => match ρ[i]? with
  | some (.ow (.lst l)) => sLift ρ (fi ρ) fun k => sLift ρ (fa ρ) fun t => match k with
    | .int k => if 0 ≤ k ∧ k ≤ 100000 ∧ l.length < 100000 then .nx (ρ.set i (.ow (.lst (l.take k.toNat ++ [t] ++ l.drop k.toNat)))) else .bad
    | _ => .bad
  | _ => .bad
theorem st_ins (i : Nat) {X : Cx} {B : BS} {W : WX} {a b : Expr} {fa fb : FE} {x : Str} {p1 p2 p3 pos : Pos} (hN : X.N[i]? = some x) (hv : Vis X.env.scope x) (ha : DE X B W .E a fa) (hb : DE X B W .E b fb)
    (h : PE X (.Call (.Attribute (.Name x p1) "insert" p2) [a, b] [] p3) (tBM X.K "list" (fun x vs H Q => ∃ (l : Addr) (xs : List V) (i : Int) (y : V), x = .ref l ∧ vs = [.int i, y] ∧ H l = some (.lst xs) ∧ xs.length < sizeLine ∧ 0 ≤ i ∧ i < 2 ^ 63 ∧ Q .non (upd H l (.lst (xs.take i.toNat ++ [y] ++ xs.drop i.toNat))))
      (tVar i) (tCons (tM (km X) B .E W fa) (tCons (tM (km X) B .E W fb) tNil))))
    (hs : swapsWith (.Call (.Attribute (.Name x p1) "insert" p2) [a, b] [] p3) none pos.line X.env = pure false := by rfl) : DS X B W (.Expr (.Call (.Attribute (.Name x p1) "insert" p2) [a, b] [] p3) pos) (sIns i fa fb) :=
  PS.imp (ps_expr h hs) fun D σ H ⟨ρ, G, s, p⟩ => by
    unfold sIns at p
    split at p
    · rename_i l e
      obtain ⟨ad, o, h1, h2, h3, h4, vs, rfl, h5⟩ := s.ow i _ e
      refine ⟨.ref ad, h1, .inl ⟨rfl, vs, SqL.of h3⟩, bindSt (m := .E) s p fun k kv H1 G1 g s1 ik p1 => bindSt (m := .E) s1 p1 fun t v H2 G2 g2 s2 iv p2 => ?_⟩
      cases k with
      | int k =>
        have p3 : PostS (km X) B W D G2 (if 0 ≤ k ∧ k ≤ 100000 ∧ l.length < 100000 then .nx (ρ.set i (.ow (.lst (l.take k.toNat ++ [t] ++ l.drop k.toNat)))) else .bad) := p2
        split at p3
        · rename_i hl
          obtain ⟨ad', o', k1, k2, k3, k4, vs', rfl, k5⟩ := s2.ow i _ e
          rw [h1] at k1
          cases k1
          have ek := Md.int1 ik
          subst ek
          refine ⟨ad, vs', k, v, rfl, rfl, k3, sz_lt (by rw [← k5.length]; exact hl.2.2), hl.1, by omega, p3 σ _ G2 (s2.write (o := .lst vs') e h1 k2 k4 ⟨_, rfl, ((k5.take _).app (IsL.one iv)).app (k5.drop _)⟩) (Ex.refl _)⟩
        · exact p3.elim
      | _ => exact p2.elim
    · exact p.elim
end VS

namespace VS
open PySem PySem.Spec PyProof.Rows L2 Evl
/-- a block within a block, that reads nothing from around -/
def noFree (scope : Scope) : Bool := scope.names.all fun y => match y.2 with | .free => false | _ => true
theorem blkOk_in {N : List Str} {sc sc' scope : Scope} {own : List (Str × Nat)} (h : blkC N sc' scope own = true) (hf : noFree scope = true) : BlkOk N sc scope own := by
  have b := blkOk_by h
  refine ⟨b.kind, b.uniq, b.ix, fun y hy e => ?_, b.own⟩
  have z := List.all_eq_true.mp hf y hy
  simp only [e] at z
  cases z
/-- a def of which nothing is said -/
theorem ok_none {P : Program} {w : World} {K : PySem.W.Frag} {mg : Str → Option Value} {base : Heap} {x : Str} {st : Stmt} {N ps : List Str} {k n : Nat} (A : At K mg x st ps) (S : FnScope N ps (defScope st)) (hn : n = ps.length) (hk : 0 < k) : Ok P w K mg base (0 + k) x n (fun _ => .bad) := by
  obtain ⟨f, fd, g, F, b⟩ := A.ex
  obtain ⟨k, rfl⟩ : ∃ j, k = j + 1 := ⟨k - 1, by omega⟩
  rw [Nat.zero_add]
  exact ⟨f, fd, ps, g, F.kp, F.okX S (fun vs H Q E h => (spD_len h).trans hn) (fun cdv A outer s H vs Q E hr h => by
    obtain ⟨ts, G, _, _, _, p⟩ := h
    exact p.elim), b⟩
end VS

namespace VS
open PySem PySem.Spec PyProof.Rows L2 Evl
/-! ### isinstance(x, (T1, T2)), built-in types -/
def gIsi2 (m1 m2 : String) (x : T) : Option T := if tyOk m1 && tyOk m2 then (tyName x).map fun n => .bl (isiT n m1 || isiT n m2) else none
theorem d_isiT2 {X : Cx} {B : BS} {W : WX} {a : Expr} {fa : FE} {n1 n2 : String} {x1 x2 : Str} {p q1 q2 pt pos : Pos} {kk : Nat} (hg : Gl X "isinstance") (hm : X.mg "isinstance" = none) (ha : DE X B W .S a fa) (hg1 : Gl X x1) (hm1 : X.mg x1 = none) (hv1 : bootBuiltins x1 = some (.type n1)) (hg2 : Gl X x2) (hm2 : X.mg x2 = none) (hv2 : bootBuiltins x2 = some (.type n2))
    (hn1 : x1 ≠ "__name__" := by decide) (hd1 : (x1 == ("__debug__" : Str)) = false := by decide) (hn2 : x2 ≠ "__name__" := by decide) (hd2 : (x2 == ("__debug__" : Str)) = false := by decide)
    (hv : bootBuiltins "isinstance" = some (.builtin "isinstance") := by decide +kernel) (he : starEach [a, .Tuple [.Name x1 q1, .Name x2 q2] kk pt] X.env = (false, eval a X.env) :: starEach [.Tuple [.Name x1 q1, .Name x2 q2] kk pt] X.env := by rfl)
    (he2 : starEach [.Tuple [.Name x1 q1, .Name x2 q2] kk pt] X.env = (false, eval (.Tuple [.Name x1 q1, .Name x2 q2] kk pt) X.env) :: starEach [] X.env := by rfl)
    (he3 : starEach [.Name x1 q1, .Name x2 q2] X.env = (false, eval (.Name x1 q1) X.env) :: starEach [.Name x2 q2] X.env := by rfl) (he4 : starEach [.Name x2 q2] X.env = (false, eval (.Name x2 q2) X.env) :: starEach [] X.env := by rfl)
    (hpl : (backTo pos (starEach [.Tuple [.Name x1 q1, .Name x2 q2] kk pt] X.env)).any (·.1) = false := by rfl) : DE X B W .E (.Call (.Name "isinstance" p) [a, .Tuple [.Name x1 q1, .Name x2 q2] kk pt] [] pos) (eU (gIsi2 n1 n2) fa) :=
  PE.imp (pe_callB call_isiT hg hm hv (pa_cons ha (pa_cons (pe_tup (pa_cons (pe_bltn (v := .ty n1) hg1 hm1 hv1 rfl hn1 hd1) (pa_cons (pe_bltn (v := .ty n2) hg2 hm2 hv2 rfl hn2 hd2) pa_nil he4) he3)) pa_nil he2) he) (by decide) (by decide) he hpl) fun σ H Q ⟨ρ, G, s, q⟩ =>
    bindS s q fun x v H1 G1 g s1 i p1 => by
      obtain ⟨t, e, q1⟩ := p1.of
      unfold gIsi2 at e
      split at e
      · rename_i k
        obtain ⟨k1, k2⟩ := Bool.and_eq_true_iff.mp k
        cases e2 : tyName x with
        | none => rw [e2] at e; cases e
        | some nn =>
          rw [e2] at e
          obtain rfl := Option.some.inj e
          refine ⟨Nat.le_of_lt (small1000 (by show 2 ≤ 1000; decide)), fun tp ht => ?_⟩
          have g2 : Gr H1 G1 (upd H1 tp (.tup [.ty n1, .ty n2])) G1 := Gr.own s1.exGH ht
          refine ⟨v, tp, [.ty n1, .ty n2], .type nn, [.type n1, .type n2], isiT nn n1 || isiT nn n2, rfl, upd_same, .cons (.ty n1) (.cons (.ty n2) .nil), tyX_of (C := km X) g2.gh (i.mono g2) e2, ?_, q1 _ _ G1 g2 (show VS.Is (km X) G1 (.bl _) _ from Is.blI)⟩
          refine kitAny_cons (kit_ty (kitB_isi e2 k1)) (fun z => ?_) (fun z => by rw [z]; rfl)
          rw [z]
          refine kitAny_cons (kit_ty (kitB_isi e2 k2)) (fun z => ?_) (fun z => by rw [z]; rfl)
          rw [z]
          rfl
      · cases e
/-! ### d[k] = v, d a dict of one's own with keys that are ints or texts -/
def sDkPut (i : Nat) (fk fa : FE) : FS := fun ρ => sLift ρ (fa ρ) fun w => match ρ[i]? with
  | some (.ow (.dic ks ws)) => sLift ρ (fk ρ) fun k => if isKey k && (ks.all isKey && decide (ks.length < 100000)) then .nx (ρ.set i (.ow (.dic (putD ks ws k w).1 (putD ks ws k w).2))) else .bad
  | _ => .bad
theorem st_dkPut {X : Cx} {B : BS} {W : WX} {e k : Expr} {fe fk : FE} {i : Nat} {x : Str} {p pos' pos : Pos} (hu : X.A.units + 64 < cLine) (he : DE X B W .E e fe) (hk : DE X B W .E k fk) (hN : X.N[i]? = some x) (hv : Vis X.env.scope x) (hd : (x == ("__debug__" : Str)) = false := by decide) (hcd : (x == ("__classdict__" : Str)) = false := by decide)
    (hs : swapsWith e (some (.Subscript (.Name x p) k pos')) pos.line X.env = pure false := by rfl) : DS X B W (.Assign [.Subscript (.Name x p) k pos'] e pos) (sDkPut i fk fe) :=
  PS.imp (ps_dput (show X.A.units + 1 < cLine by omega) (pe_var hN hv hd hcd) hk he hs) fun D σ H ⟨ρ, G, s, q⟩ => bindSt (m := .E) s q fun w v H1 G1 g s1 iw p1 => by
    split at p1
    · rename_i ks ws e0
      obtain ⟨ad, o, h1, h2, h3, h4, kvs, rfl, h5, h6⟩ := s1.ow i _ e0
      refine ⟨.ref ad, h1, bindSt (m := .E) s1 p1 fun kt y H2 G2 g2 s2 ik p2 => ?_⟩
      split at p2
      · rename_i c
        obtain ⟨c1, c2⟩ := Bool.and_eq_true_iff.mp c
        obtain ⟨c2, c3⟩ := Bool.and_eq_true_iff.mp c2
        obtain ⟨ad', o', k1, k2, k3, k4, kvs', rfl, k5, k6⟩ := s2.ow i _ e0
        rw [h1] at k1
        cases k1
        have ik' : Is (km X) G2 kt y := ik
        obtain ⟨j, rfl⟩ := key_of (H := G2) c1 (.inl ik')
        obtain ⟨a1, a2, a3⟩ := putD_is c1 ik' (Is.mono g2.eg _ _ (show Is (km X) G1 w v from iw)) c2 k5 k6
        have hl : ks.length < 100000 := of_decide_eq_true c3
        have hl2 := k5.length
        rw [List.length_map] at hl2
        refine ⟨ad, _, rfl, DPut.k k3 (sz_lt (by rw [← hl2]; exact hl)), p2 σ _ G2 (s2.write (o := .dK kvs') e0 h1 k2 k4 ⟨_, rfl, a1, a2⟩) (Ex.refl _)⟩
      · exact p2.elim
    · exact p1.elim
end VS

namespace VS
open PySem PySem.Spec PyProof.Rows L2 Evl
/-! ### a goal about what a block does, from the left -/
/-- it answers with what Q says; it goes on with slots of which I holds -/
def Good (Q : T → Prop) (o : Out) : Prop := ∃ t, o = .rt t ∧ Q t
def GoodN (I : Ev' → Prop) (o : Out) : Prop := ∃ ρ, o = .nx ρ ∧ I ρ

section
variable {P : Out → Prop} {f g h : FS} {ρ ρ' : Ev'} {i : Nat} {fa fc : FE} {fi : FI} {t : T}
theorem pSeq (e : f ρ = .nx ρ') (k : P (g ρ')) : P (sSeq f g ρ) := by rw [sSeq_nx e]; exact k
theorem pSet (e : fa ρ = .ok t) (k : P (g (ρ.set i (.sh t)))) : P (sSeq (sSet i fa) g ρ) := pSeq (sSet_ok e) k
theorem pNew (e : fa ρ = .ok t) (k : P (g (ρ.set i (.ow t)))) : P (sSeq (sNew i fa) g ρ) := pSeq (sNew_ok e) k
theorem pExp (e : fa ρ = .ok t) (k : P (g ρ)) : P (sSeq (sExp fa) g ρ) := pSeq (sExp_ok e) k
theorem pNx (k : P (g ρ)) : P (sSeq sNx g ρ) := pSeq rfl k
theorem pRet (e : fa ρ = .ok t) (k : P (.rt t)) : P (sRet fa ρ) := by rw [sRet_ok e]; exact k
theorem pRetS (e : fa ρ = .ok t) (k : P (.rt t)) : P (sSeq (sRet fa) g ρ) := by rw [sSeq_rt (sRet_ok e)]; exact k
theorem pSeqRt (e : f ρ = .rt t) (k : P (.rt t)) : P (sSeq f g ρ) := by rw [sSeq_rt e]; exact k
theorem pAssoc (k : P (sSeq f (sSeq g h) ρ)) : P (sSeq (sSeq f g) h ρ) := by
  have e : sSeq (sSeq f g) h ρ = sSeq f (sSeq g h) ρ := by
    unfold sSeq
    cases f ρ <;> rfl
  rw [e]
  exact k
theorem pIf {b : Bool} (e : fc ρ = .ok (.bl b)) (kt : b = true → P (f ρ)) (kf : b = false → P (g ρ)) : P (sIf fc f g ρ) := by
  cases b with
  | true => rw [sIf_t e]; exact kt rfl
  | false => rw [sIf_f e]; exact kf rfl
theorem pIfS {b : Bool} (e : fc ρ = .ok (.bl b)) (kt : b = true → P (sSeq f h ρ)) (kf : b = false → P (sSeq g h ρ)) : P (sSeq (sIf fc f g) h ρ) := by
  have q : ∀ o : FS, sIf fc f g ρ = o ρ → sSeq (sIf fc f g) h ρ = sSeq o h ρ := fun o z => by unfold sSeq; rw [z]
  cases b with
  | true => rw [q f (sIf_t e)]; exact kt rfl
  | false => rw [q g (sIf_f e)]; exact kf rfl
theorem pIfT (e : fc ρ = .ok (.bl true)) (k : P (sSeq f h ρ)) : P (sSeq (sIf fc f g) h ρ) := pIfS e (fun _ => k) (fun z => by cases z)
theorem pIfF (e : fc ρ = .ok (.bl false)) (k : P (sSeq g h ρ)) : P (sSeq (sIf fc f g) h ρ) := pIfS e (fun z => by cases z) (fun _ => k)
theorem pAsg {tg : Tg} (e : fa ρ = .ok t) (es : setT tg t ρ = some ρ') (k : P (g ρ')) : P (sSeq (sAsg tg fa) g ρ) := by
  refine pSeq ?_ k
  unfold sAsg
  rw [e]
  show (match setT tg t ρ with | some ρ' => Out.nx ρ' | none => .bad) = _
  rw [es]
theorem pFrzS (k : P (sSeq f g (frz i ρ))) : P (sSeq (sFrz i f) g ρ) := k
theorem pFrz (k : P (f (frz i ρ))) : P (sFrz i f ρ) := k
theorem pApp {l : List T} (hl : ρ[i]? = some (.ow (.lst l))) (e : fa ρ = .ok t) (hn : l.length ≤ 1000) (k : P (g (ρ.set i (.ow (.lst (l ++ [t])))))) : P (sSeq (sApp i fa) g ρ) := pSeq (sApp_ok hl e (lt_big hn)) k
theorem sIns_ok {fk : FE} {l : List T} {n : Nat} (hl : ρ[i]? = some (.ow (.lst l))) (ek : fk ρ = .ok (.int (n : Nat))) (e : fa ρ = .ok t) (hn : l.length ≤ 1000) (h2 : n ≤ 1000) : sIns i fk fa ρ = .nx (ρ.set i (.ow (.lst (l.take n ++ [t] ++ l.drop n)))) := by
  have b1 : ((n : Nat) : Int) ≤ 100000 := Int.ofNat_le.mpr (le_big h2)
  have b0 : (0 : Int) ≤ (n : Nat) := by omega
  have b2 : l.length < 100000 := lt_big hn
  unfold sIns
  rw [hl, ek, e]
  show (if (0 : Int) ≤ (n : Nat) ∧ ((n : Nat) : Int) ≤ 100000 ∧ l.length < 100000 then Out.nx (ρ.set i (.ow (.lst (l.take ((n : Nat) : Int).toNat ++ [t] ++ l.drop ((n : Nat) : Int).toNat)))) else .bad) = _
  rw [if_pos ⟨b0, b1, b2⟩, Int.toNat_natCast]
theorem loop_range {body : FS} (I : Nat → Ev' → Prop) {N : Nat} : ∀ (j : Nat) (ρ : Ev') (L : List Nat), L = (List.range N).drop j → I j ρ → (∀ k, k < N → ∀ ρ, I k ρ → ∃ ρ1, body (ρ.set i (.sh (.int (k : Nat)))) = .nx ρ1 ∧ I (k + 1) ρ1) → j ≤ N →
    ∃ ρ', loopF (.nm i) body (L.map fun i => .int (i : Nat)) ρ = .nx ρ' ∧ I N ρ' := by
  intro j ρ L
  induction L generalizing j ρ with
  | nil =>
    intro e h0 h hj
    have e1 : N ≤ j := by
      have := congrArg List.length e
      simp at this
      omega
    obtain rfl : j = N := by omega
    exact ⟨ρ, rfl, h0⟩
  | cons a L ih =>
    intro e h0 h hj
    have hlt : j < N := by
      have := congrArg List.length e
      simp at this
      omega
    have e2 : (List.range N).drop j = j :: (List.range N).drop (j + 1) := by
      rw [List.drop_eq_getElem_cons (by simpa using hlt)]
      simp
    rw [e2] at e
    obtain ⟨rfl, rfl⟩ := List.cons.inj e
    obtain ⟨ρ1, b1, b2⟩ := h a hlt ρ h0
    obtain ⟨ρ', q1, q2⟩ := ih (a + 1) ρ1 rfl b2 h hlt
    refine ⟨ρ', ?_, q2⟩
    rw [List.map_cons]
    unfold loopF
    simp only [setT, b1, q1]
/-- for k in range(N): an invariant of k and the slots -/
theorem pForR (I : Nat → Ev' → Prop) {N : Nat} (hf : fi ρ = .ok ((List.range N).map fun i => .int (i : Nat))) (h0 : I 0 ρ) (hb : ∀ k, k < N → ∀ ρ, I k ρ → GoodN (I (k + 1)) (f (ρ.set i (.sh (.int (k : Nat)))))) (k : ∀ ρ', I N ρ' → P (g ρ')) : P (sSeq (sFor fi (.nm i) f) g ρ) := by
  obtain ⟨ρ', e, q⟩ := loop_range (i := i) (body := f) I 0 ρ (List.range N) rfl h0 hb (Nat.zero_le _)
  exact pSeq (sFor_ok hf e) (k ρ' q)
/-- for x in xs: an invariant of what is left and the slots; a turn goes on, or the block answers -/
theorem pFor {α : Type} {u : α → T} {tg : Tg} (I : List α → Ev' → Prop) {l : List α} (hf : fi ρ = .ok (l.map u)) (h0 : I l ρ) (hb : ∀ a r ρ, I (a :: r) ρ → ∃ ρ0, setT tg (u a) ρ = some ρ0 ∧ ((∃ ρ1, f ρ0 = .nx ρ1 ∧ I r ρ1) ∨ (∃ ρ1, f ρ0 = .ct ρ1 ∧ I r ρ1) ∨ ∃ t, f ρ0 = .rt t ∧ P (.rt t)))
    (k : ∀ ρ', I [] ρ' → P (g ρ')) : P (sSeq (sFor fi tg f) g ρ) := by
  have main : ∀ (l : List α) (ρ : Ev'), I l ρ → (∃ ρ', loopF tg f (l.map u) ρ = .nx ρ' ∧ I [] ρ') ∨ ∃ t, loopF tg f (l.map u) ρ = .rt t ∧ P (.rt t) := by
    intro l
    induction l with
    | nil => intro ρ q; exact .inl ⟨ρ, rfl, q⟩
    | cons a r ih =>
      intro ρ q
      obtain ⟨ρ0, e0, ⟨ρ1, e1, q1⟩ | ⟨ρ1, e1, q1⟩ | ⟨t, e1, q1⟩⟩ := hb a r ρ q
      · have z : loopF tg f ((a :: r).map u) ρ = loopF tg f (r.map u) ρ1 := by
          rw [List.map_cons]
          conv => lhs; unfold loopF
          simp only [e0, e1]
        rw [z]
        exact ih ρ1 q1
      · have z : loopF tg f ((a :: r).map u) ρ = loopF tg f (r.map u) ρ1 := by
          rw [List.map_cons]
          conv => lhs; unfold loopF
          simp only [e0, e1]
        rw [z]
        exact ih ρ1 q1
      · refine .inr ⟨t, ?_, q1⟩
        rw [List.map_cons]
        unfold loopF
        simp only [e0, e1]
  rcases main l ρ h0 with ⟨ρ', e, q⟩ | ⟨t, e, q⟩
  · exact pSeq (sFor_ok hf e) (k ρ' q)
  · exact pSeqRt (sFor_ok hf e) q
end
theorem gLen_map {α : Type} (l : List α) (u : α → T) : gLen (.lst (l.map u)) = some (.int (l.length : Nat)) := by
  show some (T.int ((l.map u).length : Nat)) = _
  rw [List.length_map]
theorem gLen_mapT {α : Type} (l : List α) (u : α → T) : gLen (.tup (l.map u)) = some (.int (l.length : Nat)) := by
  show some (T.int ((l.map u).length : Nat)) = _
  rw [List.length_map]
/-- a def's answer, by what its block does -/
theorem def_P {m : Nat} {f : FS} {ts : List T} {Q : T → Prop} (h : Good Q (f (ts.map Sl.sh ++ List.replicate (m - ts.length) Sl.un))) : ∃ t, fDef m f ts = .ok t ∧ Q t := by
  obtain ⟨t, e, q⟩ := h
  exact ⟨t, fDef_rt e, q⟩
theorem defN_rt {m : Nat} {f : FS} {ts : List T} {t : T} (h : f (ts.map Sl.sh ++ List.replicate (m - ts.length) Sl.un) = .rt t) : fDefN m f ts = .ok t := by unfold fDefN; rw [h]
theorem defN_P {m : Nat} {f : FS} {ts : List T} {Q : T → Prop} (h : Good Q (f (ts.map Sl.sh ++ List.replicate (m - ts.length) Sl.un))) : ∃ t, fDefN m f ts = .ok t ∧ Q t := by
  obtain ⟨t, e, q⟩ := h
  exact ⟨t, defN_rt e, q⟩
theorem defN_ex {m : Nat} {f : FS} {ts : List T} {ρ : Ev'} {x : Str} {p : List T} (h : f (ts.map Sl.sh ++ List.replicate (m - ts.length) Sl.un) = .ex x p ρ) : fDefN m f ts = .ex x p := by unfold fDefN; rw [h]
/-! ### comprehensions -/
section
variable {α : Type} {i : Nat} {is : List Nat} {fi : FI} {fc fe fk fv : FE} {ρ : Ev'} {u f : α → T} {p : α → Bool}
theorem compF_filter : ∀ {l : List α}, (∀ a ∈ l, fc (ρ.set i (.sh (u a))) = .ok (.bl (p a)) ∧ (p a = true → fe (ρ.set i (.sh (u a))) = .ok (f a))) → compF (.nm i) fc fe (l.map u) ρ = .ok ((l.filter p).map f)
  | [], _ => rfl
  | a :: l, h => by
    rw [List.map_cons]
    unfold compF
    simp only [setT]
    obtain ⟨h1, h2⟩ := h a List.mem_cons_self
    rw [h1]
    cases e : p a with
    | true =>
      simp only
      rw [h2 e, compF_filter fun b m => h b (List.mem_cons_of_mem _ m), List.filter_cons_of_pos e]
      rfl
    | false =>
      simp only
      rw [compF_filter fun b m => h b (List.mem_cons_of_mem _ m), List.filter_cons_of_neg (by rw [e]; exact Bool.false_ne_true)]
theorem eComp_filter {l : List α} (hi : fi ρ = .ok (l.map u)) (hl : l.length ≤ 1000) (h : ∀ a ∈ l, fc ((wipeE ρ is).set i (.sh (u a))) = .ok (.bl (p a)) ∧ (p a = true → fe ((wipeE ρ is).set i (.sh (u a))) = .ok (f a))) :
    eComp fi (.nm i) is fc fe ρ = .ok (.lst ((l.filter p).map f)) := by
  unfold eComp
  rw [hi]
  show (Res.bind (compF (.nm i) fc fe (l.map u) (wipeE ρ is)) fun ts => if ts.length ≤ 99999 then .ok (T.lst ts) else .bad) = _
  rw [compF_filter h]
  show (if ((l.filter p).map f).length ≤ 99999 then Res.ok (T.lst ((l.filter p).map f)) else .bad) = _
  rw [if_pos (by rw [List.length_map]; exact le_big9 (Nat.le_trans (List.length_filter_le _ _) hl))]
theorem keyEq_int (a b : Int) : keyEq (.int a) (.int b) = (a == b) := rfl
theorem dFold_keys {kf : α → Int} {wf : α → T} : ∀ (l A : List α), ((A ++ l).map kf).Nodup → (l.map fun a => T.tup [.int (kf a), wf a]).foldl dOf (some (A.map fun a => .int (kf a), A.map wf)) = some ((A ++ l).map fun a => .int (kf a), (A ++ l).map wf)
  | [], A, _ => by rw [List.append_nil]; rfl
  | a :: l, A, h => by
    rw [List.map_cons, List.foldl_cons]
    have e : dOf (some (A.map fun a => T.int (kf a), A.map wf)) (.tup [.int (kf a), wf a]) = some ((A ++ [a]).map fun a => .int (kf a), (A ++ [a]).map wf) := by
      show (if isKey (.int (kf a)) then some (putD (A.map fun a => T.int (kf a)) (A.map wf) (.int (kf a)) (wf a)) else none) = _
      rw [if_pos (show isKey (.int (kf a)) = true from rfl)]
      unfold putD
      rw [if_neg]
      · rw [List.map_append, List.map_append]
        rfl
      · intro z
        obtain ⟨x, hx, ex⟩ := List.any_eq_true.mp z
        obtain ⟨b, hb, rfl⟩ := List.mem_map.mp hx
        rw [keyEq_int] at ex
        have ex' : kf b = kf a := eq_of_beq ex
        rw [List.map_append, List.map_cons] at h
        have h2 := (List.nodup_append.mp h).2.2
        exact h2 (kf b) (List.mem_map_of_mem hb) (kf a) List.mem_cons_self ex'
    rw [e, dFold_keys l (A ++ [a]) (by rw [List.append_assoc]; exact h), List.append_assoc]
    rfl
theorem eDComp_keys {kf : α → Int} {wf : α → T} {l : List α} (hi : fi ρ = .ok (l.map u)) (hl : l.length ≤ 1000) (nd : (l.map kf).Nodup) (h : ∀ a ∈ l, fk ((wipeE ρ is).set i (.sh (u a))) = .ok (.int (kf a)) ∧ fv ((wipeE ρ is).set i (.sh (u a))) = .ok (wf a)) :
    eDComp fi (.nm i) is (eC (.bl true)) fk fv ρ = .ok (.dic (l.map fun a => .int (kf a)) (l.map wf)) := by
  unfold eDComp
  rw [hi]
  show (Res.bind (compF (.nm i) (eC (.bl true)) (ePair fk fv) (l.map u) (wipeE ρ is)) fun ts => match dFold ts with | some (ks, ws) => if ts.length ≤ 99999 then .ok (T.dic ks ws) else .bad | none => .bad) = _
  rw [compF_mapM (f := fun a => .tup [.int (kf a), wf a]) fun a m => by
    unfold ePair
    rw [(h a m).1]
    show (Res.bind (fv _) fun v => .ok (T.tup [.int (kf a), v])) = _
    rw [(h a m).2]
    rfl]
  show (match dFold (l.map fun a => T.tup [.int (kf a), wf a]) with | some (ks, ws) => if (l.map fun a => T.tup [.int (kf a), wf a]).length ≤ 99999 then Res.ok (T.dic ks ws) else .bad | none => .bad) = _
  have e := dFold_keys (kf := kf) (wf := wf) l [] nd
  unfold dFold
  rw [show (some ([], []) : Option (List T × List T)) = some (([] : List α).map (fun a => .int (kf a)), ([] : List α).map wf) from rfl, e]
  show (if (l.map fun a => T.tup [.int (kf a), wf a]).length ≤ 99999 then Res.ok (T.dic _ _) else .bad) = _
  rw [if_pos (by rw [List.length_map]; exact le_big9 hl)]
  rfl
theorem all_keys {kf : α → Int} (l : List α) : (l.map fun a => T.int (kf a)).all isKey = true := by
  rw [List.all_map]
  exact List.all_eq_true.mpr fun a _ => rfl
theorem gDIn_keys {kf : α → Int} {ws : List T} (l : List α) (o : Int) : gDIn false (.int o) (.dic (l.map fun a => .int (kf a)) ws) = some (.bl (l.any fun a => kf a == o)) := by
  unfold gDIn
  simp only [all_keys, isKey, Bool.and_self, if_true]
  rw [List.any_map]
  rfl
theorem gDGet_keys {kf : α → Int} {wf : α → T} (l : List α) (o : Int) : gDGet (.dic (l.map fun a => .int (kf a)) (l.map wf)) (.int o) = (l.find? fun a => kf a == o).map wf := by
  unfold gDGet
  simp only [all_keys, isKey, Bool.and_self, if_true]
  induction l with
  | nil => rfl
  | cons a l ih =>
    rw [List.map_cons, List.map_cons]
    unfold lookT
    rw [keyEq_int, List.find?_cons]
    cases e : kf a == o with
    | true => rfl
    | false => exact ih
end
theorem cutT_1 {α : Type} (l : List α) : cutT l (some 1) none = l.drop 1 := by
  unfold cutT HT.sIx
  simp only []
  rw [if_neg (by decide), show ((1 : Int).toNat) = 1 from rfl]
  by_cases h : 1 ≤ l.length
  · rw [Nat.min_eq_left h, List.take_of_length_le (by rw [List.length_drop]; exact Nat.le_refl _)]
  · rw [Nat.min_eq_right (by omega), Nat.sub_self, List.take_zero, List.drop_eq_nil_of_le (by omega)]
end VS

/-! things of one's own that are lent to a def -/
namespace VS
open PySem PySem.Spec PyProof.Rows L2 Evl

/-- the heap without what is lent -/
def mask (H : Hp) (F : List Addr) : Hp := fun x => if x ∈ F then none else H x
theorem mask_in {H : Hp} {F : List Addr} {x : Addr} (h : x ∈ F) : mask H F x = none := if_pos h
theorem mask_out {H : Hp} {F : List Addr} {x : Addr} (h : x ∉ F) : mask H F x = H x := if_neg h
theorem mask_some {H : Hp} {F : List Addr} {x : Addr} {o : HO} (h : mask H F x = some o) : x ∉ F ∧ H x = some o := by
  by_cases m : x ∈ F
  · rw [mask_in m] at h; cases h
  · rw [mask_out m] at h; exact ⟨m, h⟩
theorem mask_ex {H : Hp} {F : List Addr} : Ex (mask H F) H := fun _ _ h => (mask_some h).2
theorem mask_none {H : Hp} {F : List Addr} {x : Addr} (h : mask H F x = none) : x ∈ F ∨ H x = none := by
  by_cases m : x ∈ F
  · exact .inl m
  · rw [mask_out m] at h; exact .inr h
section
variable {C : KM} {B : BS} {σ : L2.St} {H G H' G' : Hp} {ρ : Ev'} {j : Nat} {v : V} {d d' : D} {F F' : List Addr}
/-- what was lent comes back -/
theorem SR.lend (s : SR C B σ H ρ G) (e : ρ[j]? = some (.dp d)) (ev : σ[j]? = some (some v)) (hd : Dv C B.w H G d v F) (g : Gr (mask H F) G H' G') (hd' : Dv C B.w H' G' d' v F') (nd : F'.Nodup)
    (hF' : ∀ x ∈ F', mask H F x = none ∧ G' x = none) : SR C B σ H' (ρ.set j (.dp d')) G' := by
  obtain ⟨Fp, h1, h2, h3, h4⟩ := s.dp
  obtain ⟨v', q1, q2, q3, q4⟩ := h1 j d e
  rw [ev] at q1
  cases q1
  have eF := hd.det (Ex.refl _) _ _ _ _ (fun x _ o z => z) q2
  subst eF
  have hk : ∀ x, x ∉ Fp j → ∀ o, H x = some o → H' x = some o := fun x m o z => g.eh x o (by rw [mask_out m]; exact z)
  have sp : ∀ x o, x ∉ Fp j → H x = some o → G x = none → G' x = none := fun x o m z y => g.sep x o y (by rw [mask_out m]; exact z)
  have bo : ∀ x o, B.1 x = some o → x ∉ Fp j := fun x o z m => by rw [(q4 x m).1] at z; cases z
  refine ⟨⟨fun x o z => hk x (bo x o z) o (s.gr.eh x o z), s.gr.eg.trans g.eg, g.gh, fun x o z y => sp x o (bo x o y) (s.gr.eh x o y) (s.gr.sep x o z y)⟩, fun k t z => ?_, fun k t z => ?_, fun k l t u a hkl z1 z2 z3 z4 => ?_, by rw [List.length_set]; exact s.len, fun k y p z => ?_, ?_⟩
  · rcases set_get z with ⟨_, w⟩ | ⟨_, w⟩
    · cases w
    · obtain ⟨u, k1, k2⟩ := s.sh k t w
      exact ⟨u, k1, Is.mono g.eg _ _ k2⟩
  · rcases set_get z with ⟨_, w⟩ | ⟨_, w⟩
    · cases w
    · obtain ⟨a, o, k1, k2, k3, k4, k5⟩ := s.ow k t w
      have na := h3 j k d t a e w k1
      exact ⟨a, o, k1, k2, hk a na o k3, sp a o na k3 k4, k5.mono g.eg⟩
  · rcases set_get z1 with ⟨_, w⟩ | ⟨_, w1⟩
    · cases w
    · rcases set_get z2 with ⟨_, w⟩ | ⟨_, w2⟩
      · cases w
      · exact s.ds k l t u a hkl w1 w2 z3 z4
  · rcases set_get z with ⟨_, w⟩ | ⟨_, w⟩
    · cases w
    · obtain ⟨a, cls, dd, k1, k2, k3⟩ := s.xn k y p w
      exact ⟨a, cls, dd, k1, k2, k3.mono g.eg⟩
  · have old : ∀ {k : Nat} {c : D} {x : Addr}, ρ[k]? = some (.dp c) → x ∈ Fp k → k ≠ j → x ∉ F' := fun {k c x} w m n m2 => by
      rcases mask_none (hF' x m2).1 with y | y
      · exact h2 k j c d x n w e m y
      · obtain ⟨u, _, k2, _⟩ := h1 k c w
        obtain ⟨o, ho⟩ := k2.there _ _ _ x m
        rw [y] at ho
        cases ho
    refine ⟨fun k => if k = j then F' else Fp k, fun k c z => ?_, fun k l c1 c2 x hkl z1 z2 m1 m2 => ?_, fun k l c t a z1 z2 z3 m => ?_, fun p mp c z => ?_⟩
    · rcases set_get z with ⟨rfl, w⟩ | ⟨n, w⟩
      · cases w
        simp only [if_true]
        refine ⟨v, ev, hd', nd, fun x m => ⟨?_, (hF' x m).2⟩⟩
        rcases mask_none (hF' x m).1 with w | w
        · exact (q4 x w).1
        · exact fresh_back s.gr.eh w
      · obtain ⟨u, k1, k2, k3, k4⟩ := h1 k c w
        simp only [if_neg n]
        have out : ∀ x ∈ Fp k, x ∉ Fp j := fun x m m2 => h2 k j c d x n w e m m2
        refine ⟨u, k1, k2.mono g.eg _ _ _ (fun x m o y => hk x (out x m) o y), k3, fun x m => ⟨(k4 x m).1, ?_⟩⟩
        obtain ⟨o, ho⟩ := k2.there _ _ _ x m
        exact sp x o (out x m) ho (k4 x m).2
    · simp only at m1 m2
      rcases set_get z1 with ⟨n1, w1⟩ | ⟨n1, w1⟩
      · rcases set_get z2 with ⟨n2, w2⟩ | ⟨n2, w2⟩
        · exact hkl (n1.trans n2.symm)
        · rw [if_pos n1] at m1
          rw [if_neg n2] at m2
          exact old w2 m2 n2 m1
      · rcases set_get z2 with ⟨n2, w2⟩ | ⟨n2, w2⟩
        · rw [if_neg n1] at m1
          rw [if_pos n2] at m2
          exact old w1 m1 n1 m2
        · rw [if_neg n1] at m1
          rw [if_neg n2] at m2
          exact h2 k l c1 c2 x hkl w1 w2 m1 m2
    · simp only at m
      rcases set_get z2 with ⟨_, w⟩ | ⟨_, w⟩
      · cases w
      · rcases set_get z1 with ⟨n1, w1⟩ | ⟨n1, w1⟩
        · rw [if_pos n1] at m
          rcases mask_none (hF' a m).1 with y | y
          · exact h3 j l d t a e w z3 y
          · obtain ⟨b, o, k1, _, k3, _⟩ := s.ow l t w
            rw [k1] at z3
            cases z3
            rw [y] at k3
            cases k3
        · rw [if_neg n1] at m
          exact h3 k l c t a w1 w z3 m
    · rcases set_get z with ⟨n1, w1⟩ | ⟨_, w1⟩
      · exact h4 p mp d (by rw [n1]; exact e)
      · exact h4 p mp c w1
end

/-! ### what is told back -/
def encOk : D → Bool
  | .dt _ _ => true
  | .ob _ _ ds => ds.all fun d => match d with | .sh _ => true | .ls _ => true | _ => false
  | _ => false
theorem strs_map (l : List Str) : strs? (l.map .str) = some l := by
  induction l with
  | nil => rfl
  | cons a l ih =>
    show (strs? (l.map .str)).map (a :: ·) = _
    rw [ih]
    rfl
theorem decFs_map : ∀ (ds : List D), (ds.all fun d => match d with | .sh _ => true | .ls _ => true | _ => false) = true → decFs (ds.map encF) = some ds
  | [], _ => rfl
  | d :: ds, h => by
    rw [List.all_cons, Bool.and_eq_true] at h
    have e : decF (encF d) = some d := by
      cases d with
      | sh t => rfl
      | ls l => rfl
      | _ => cases h.1
    rw [List.map_cons]
    unfold decFs
    rw [e, decFs_map ds h.2]
theorem enc_ref {C : KM} {w : World} {H G : Hp} {d : D} {v : V} {F : List Addr} (h : encOk d = true) (k : Dv C w H G d v F) : ∃ a, v = .ref a := by
  cases d with
  | dt ks ws =>
    unfold Dv at k
    obtain ⟨a, xs, vs, h1, _⟩ := k
    exact ⟨a, h1⟩
  | ob c ns ds =>
    unfold Dv at k
    obtain ⟨a, Cc, dx, vs, F', h1, _⟩ := k
    exact ⟨a, h1⟩
  | _ => cases h
theorem dec_enc {d : D} (h : encOk d = true) : dec (enc d) = some d := by
  cases d with
  | dt ks ws => rfl
  | ob c ns ds =>
    show (match strs? (ns.map .str), decFs (ds.map encF) with | some ns, some ds => some (D.ob c ns ds) | _, _ => none) = _
    rw [strs_map, decFs_map ds h]
  | _ => cases h

/-! ### a def that is lent something -/
inductive RB where
  | ok (t : T) (d : D) | ex (x : Str) (p : List T) (d : D) | bad
abbrev MirB := List T → D → RB
def outB (i : Nat) (o : Out) : RB :=
  match o with
  | .rt (.tup [u, e]) => (match dec e with | some d => .ok u d | none => .bad)
  | .nx ρ => (match ρ[i]? with | some (.dp d) => .ok .non d | _ => .bad)
  | .ex x p ρ => (match ρ[i]? with | some (.dp d) => .ex x p d | _ => .bad)
  | _ => .bad
def frB (i m : Nat) (ts : List T) (d : D) : Ev' := (ts.map Sl.sh).set i (.dp d) ++ List.replicate (m - ts.length) Sl.un
def fDefB (i m : Nat) (f : FS) : MirB := fun ts d => outB i (f (frB i m ts d))
/-- the arguments: at i what is lent, the others are shared -/
def IsB (C : KM) (G : Hp) (i : Nat) (v : V) (ts : List T) (vs : List V) : Prop := ts.length = vs.length ∧ vs[i]? = some v ∧ ∀ k t, k ≠ i → ts[k]? = some t → ∃ u, vs[k]? = some u ∧ Is C G t u
theorem IsB.mono {C : KM} {G G' : Hp} {i : Nat} {v : V} {ts : List T} {vs : List V} (e : Ex G G') (h : IsB C G i v ts vs) : IsB C G' i v ts vs :=
  ⟨h.1, h.2.1, fun k t n q => let ⟨u, q1, q2⟩ := h.2.2 k t n q; ⟨u, q1, Is.mono e _ _ q2⟩⟩
def PostB (C : KM) (w : World) (v : V) (Hm G : Hp) (r : RB) (Q : VK) (E : XK) : Prop :=
  match r with
  | .ok t d => ∀ u H' G' F', Gr Hm G H' G' → Is C G' t u → Dv C w H' G' d v F' → F'.Nodup → (∀ x ∈ F', Hm x = none ∧ G' x = none) → Q u H'
  | .ex x p d => ∀ cls dd H' G' F', Gr Hm G H' G' → XAt C x p cls dd G' → Dv C w H' G' d v F' → F'.Nodup → (∀ x ∈ F', Hm x = none ∧ G' x = none) → E cls dd H'
  | .bad => False
def spDB (C : KM) (w : World) (n i : Nat) (g : MirB) : Sp := fun vs H Q E => ∃ ts d a F G, Ex G H ∧ IsB C G i (.ref a) ts vs ∧ ts.length = n ∧ Dv C w H G d (.ref a) F ∧ F.Nodup ∧ (∀ x ∈ F, G x = none) ∧ PostB C w (.ref a) (mask H F) G (g ts d) Q E
theorem frB_get {i m : Nat} {ts : List T} {d : D} {k : Nat} {x : Sl} (hi : i < ts.length) (q : (frB i m ts d)[k]? = some x) : (k = i ∧ x = .dp d) ∨ (k ≠ i ∧ k < ts.length ∧ ∃ t, ts[k]? = some t ∧ x = .sh t) ∨ (ts.length ≤ k ∧ x = .un) := by
  unfold frB at q
  by_cases hk : k < ts.length
  · rw [List.getElem?_append_left (by simpa using hk)] at q
    rcases set_get q with ⟨rfl, z⟩ | ⟨n, z⟩
    · exact .inl ⟨rfl, z⟩
    · rw [List.getElem?_map] at z
      cases e : ts[k]? with
      | none => rw [e] at z; cases z
      | some t => rw [e] at z; cases z; exact .inr (.inl ⟨n, hk, t, rfl, rfl⟩)
  · rw [List.getElem?_append_right (by simpa using hk), List.getElem?_replicate] at q
    split at q
    · cases q; exact .inr (.inr ⟨by omega, rfl⟩)
    · cases q
theorem start_srB {C : KM} {w : World} {H G : Hp} {N : List Str} {ts : List T} {vs : List V} {d : D} {a : Addr} {F : List Addr} {i : Nat} (e : Ex G H) (hi : i < ts.length) (h : IsB C G i (.ref a) ts vs) (hd : Dv C w H G d (.ref a) F) (nd : F.Nodup) (hF : ∀ x ∈ F, G x = none) :
    SR C ⟨mask H F, G, none, .B a, w, [(i, a)]⟩ (L2.start N vs) H (frB i N.length ts d) G := by
  have st : ∀ {k : Nat} {u : V}, vs[k]? = some u → (L2.start N vs)[k]? = some (some u) := fun {k u} q => by
    unfold L2.start
    rw [List.getElem?_append_left (by rw [List.length_map]; exact (List.getElem?_eq_some_iff.mp q).1), List.getElem?_map, q]
    rfl
  exact {
    gr := ⟨mask_ex, Ex.refl _, e, fun _ _ g _ => g⟩
    sh := fun k t q => by
      rcases frB_get hi q with ⟨_, z⟩ | ⟨n, _, u, z1, z2⟩ | ⟨_, z⟩
      · cases z
      · cases z2
        obtain ⟨v, q1, q2⟩ := h.2.2 k t n z1
        exact ⟨v, st q1, q2⟩
      · cases z
    ow := fun k t q => by
      rcases frB_get hi q with ⟨_, z⟩ | ⟨n, _, u, z1, z2⟩ | ⟨_, z⟩
      · cases z
      · cases z2
      · cases z
    ds := fun k l t u b _ q _ _ _ => by
      rcases frB_get hi q with ⟨_, z⟩ | ⟨n, _, u, z1, z2⟩ | ⟨_, z⟩
      · cases z
      · cases z2
      · cases z
    len := by
      unfold L2.start frB
      rw [List.length_append, List.length_append, List.length_set, List.length_map, List.length_map, List.length_replicate, List.length_replicate, h.1]
    xn := fun k x p q => by
      rcases frB_get hi q with ⟨_, z⟩ | ⟨n, _, u, z1, z2⟩ | ⟨_, z⟩
      · cases z
      · cases z2
      · cases z
    dp := by
      have dpAt : ∀ {k : Nat} {c : D}, (frB i N.length ts d)[k]? = some (.dp c) → k = i ∧ c = d := fun {k c} q => by
        rcases frB_get hi q with ⟨z1, z⟩ | ⟨n, _, u, z1, z2⟩ | ⟨_, z⟩
        · cases z; exact ⟨z1, rfl⟩
        · cases z2
        · cases z
      refine ⟨fun _ => F, fun k c q => ?_, fun k l c1 c2 x n q1 q2 _ _ => ?_, fun k l c t b q1 q2 _ => ?_, fun p mp c q => ?_⟩
      · obtain ⟨rfl, rfl⟩ := dpAt q
        exact ⟨.ref a, st h.2.1, hd, nd, fun x m => ⟨mask_in m, hF x m⟩⟩
      · exact n ((dpAt q1).1.trans (dpAt q2).1.symm)
      · rcases frB_get hi q2 with ⟨_, z⟩ | ⟨n, _, u, z1, z2⟩ | ⟨_, z⟩
        · cases z
        · cases z2
        · cases z
      · obtain rfl := List.mem_singleton.mp mp
        exact st h.2.1 }
theorem def_okB {P : Program} {w : World} {K : PySem.W.Frag} {mg : Str → Option Value} {base : Heap} {x qual : Str} {st : Stmt} {f : Addr} {fd : FuncData} {N ps : List Str} {k n i : Nat} {fs : FS} (F : Fun K x qual st f fd) (S : FnScope N ps (defScope st)) (hn : n = ps.length) (hi : i < n)
    (hbody : ∀ (cdv : Value) (A : Around) (outer : List Env) (s : Shared) (H Hm G : Hp) (a : Addr) (E : XK), Room k (A.deeper (envOfC qual (defScope st) s.heap.objs.size f cdv)) →
      DSs (cxOf (L2.CX P w) P w K mg base N qual (defScope st) f cdv A outer s H E) ⟨Hm, G, none, .B a, w, [(i, a)]⟩ (fun cls d _ H' => E cls d H') (defBody st) fs) :
    FnOk P w K mg base (L2.CX P w) (k + 1) f fd ps (spDB ⟨K, mg⟩ w n i (fDefB i N.length fs)) := by
  refine F.okX S (fun vs H Q E ⟨ts, d, a, F, G, _, h1, h2, _⟩ => by rw [← h1.1]; exact h2.trans hn) (fun cdv A outer s H vs Q E hr h => ?_)
  obtain ⟨ts, d, a, FF, G, ex, is, hl, hd, nd, hF, p⟩ := h
  refine ⟨_, hbody cdv A outer s H (mask H FF) G a E hr, _, G, start_srB ex (by omega) is hd nd hF, ?_⟩
  unfold fDefB outB at p
  have back : ∀ {σ' : L2.St} {H' G' : Hp} {ρ : Ev'} {c : D}, SR ⟨K, mg⟩ ⟨mask H FF, G, none, .B a, w, [(i, a)]⟩ σ' H' ρ G' → ρ[i]? = some (.dp c) → ∃ F', Dv ⟨K, mg⟩ w H' G' c (.ref a) F' ∧ F'.Nodup ∧ ∀ x ∈ F', mask H FF x = none ∧ G' x = none := fun {σ' H' G' ρ c} s q => by
    obtain ⟨Fp, h1, _, _, h4⟩ := s.dp
    obtain ⟨v, q1, q2, q3, q4⟩ := h1 i c q
    have q5 := h4 (i, a) (List.mem_singleton.mpr rfl) c q
    rw [q1] at q5
    cases q5
    exact ⟨Fp i, q2, q3, q4⟩
  cases q : fs (frB i N.length ts d) with
  | nx ρ =>
    rw [q] at p
    intro σ' H' G' s' _
    cases z : ρ[i]? with
    | none => simp only [z] at p; exact p.elim
    | some y =>
      cases y with
      | dp c =>
        simp only [z] at p
        obtain ⟨F', k1, k2, k3⟩ := back s' z
        exact p .non H' G' F' s'.gr Is.nonI k1 k2 k3
      | _ => simp only [z] at p; exact p.elim
  | rt t =>
    rw [q] at p
    intro v H' G' g' is'
    obtain ⟨u, c, F', rfl, e1, k1, k2, k3, k4⟩ := is'
    simp only [e1] at p
    exact p v H' G' F' g' k1 k2 k3 k4
  | bk ρ => rw [q] at p; exact p.elim
  | ct ρ => rw [q] at p; exact p.elim
  | ex x y ρ =>
    rw [q] at p
    intro cls dd σ' H' G' s' _ i'
    cases z : ρ[i]? with
    | none => simp only [z] at p; exact p.elim
    | some y =>
      cases y with
      | dp c =>
        simp only [z] at p
        obtain ⟨F', k1, k2, k3⟩ := back s' z
        exact p cls dd H' G' F' s'.gr i' k1 k2 k3
      | _ => simp only [z] at p; exact p.elim
  | bad => rw [q] at p; exact p
structure OkB (P : Program) (w : World) (K : PySem.W.Frag) (mg : Str → Option Value) (base : Heap) (k : Nat) (x : Str) (n i : Nat) (m : MirB) : Prop where
  ex : ∃ (f : Addr) (fd : FuncData) (ps : List Str), mg x = some (.ref f) ∧ PySem.W.keepIn K (.ref f) = true ∧ FnOk P w K mg base (L2.CX P w) k f fd ps (spDB ⟨K, mg⟩ w n i m) ∧ Binds K fd ps []
theorem okOB {P : Program} {w : World} {K : PySem.W.Frag} {mg : Str → Option Value} {base : Heap} {x : Str} {st : Stmt} {N ps : List Str} {k n i : Nat} {fs : FS} {m : MirB} (A : At K mg x st ps) (S : FnScope N ps (defScope st)) (hn : n = ps.length) (hi : i < n) (hm : m = fDefB i N.length fs)
    (hbody : ∀ (f : Addr) (cdv : Value) (A : Around) (outer : List Env) (s : Shared) (H Hm G : Hp) (a : Addr) (E : XK), Room k (A.deeper (envOfC x (defScope st) s.heap.objs.size f cdv)) →
      DSs (cxOf (L2.CX P w) P w K mg base N x (defScope st) f cdv A outer s H E) ⟨Hm, G, none, .B a, w, [(i, a)]⟩ (fun cls d _ H' => E cls d H') (defBody st) fs) :
    OkB P w K mg base (k + 1) x n i m := by
  obtain ⟨f, fd, g, F, b⟩ := A.ex
  rw [hm]
  exact ⟨f, fd, ps, g, F.kp, def_okB F S hn hi (hbody f), b⟩

/-! ### its return -/
def sRetB (i : Nat) (fa : FE) : FS := fun ρ => sLift ρ (fa ρ) fun t => match ρ[i]? with | some (.dp d) => if encOk d then .rt (.tup [t, enc d]) else .bad | _ => .bad
section
variable {X : Cx} {B : BS} {W : WX} {e : Expr} {es : List Expr} {fa : FE} {fr : FA} {pos p : Pos} {i : Nat}
theorem st_retB (i : Nat) {a : Addr} (he : DE X B W .E e fa) (hm : B.rm = .B a := by rfl) (hb : B.bi = [(i, a)] := by rfl) : DS X B W (.Return (some e) pos) (sRetB i fa) := PS.imp (ps_ret he) fun D σ H ⟨ρ, G, s, p⟩ => bindSt (m := .E) s p fun t v H1 G1 g s1 it p1 => by
  split at p1
  · rename_i d e0
    split at p1
    · rename_i ok
      obtain ⟨Fp, h1, _, _, h4⟩ := s1.dp
      obtain ⟨u, q1, q2, q3, q4⟩ := h1 i d e0
      have q5 := h4 (i, a) (by rw [hb]; exact List.mem_singleton.mpr rfl) d e0
      rw [q1] at q5
      cases q5
      refine p1 v H1 G1 s1.gr ?_
      rw [hm]
      exact ⟨t, d, Fp i, rfl, dec_enc ok, it, q2, q3, q4⟩
    · exact p1.elim
  · exact p1.elim
theorem st_retNB (i : Nat) {a : Addr} (hm : B.rm = .B a := by rfl) (hb : B.bi = [(i, a)] := by rfl) : DS X B W (.Return none pos) (sRetB i (eC .non)) := PS.imp ps_retN fun D σ H ⟨ρ, G, s, p1⟩ => by
  have p1 : PostS (km X) B W D G (match ρ[i]? with | some (.dp d) => if encOk d then Out.rt (.tup [.non, enc d]) else .bad | _ => .bad) := p1
  split at p1
  · rename_i d e0
    split at p1
    · rename_i ok
      obtain ⟨Fp, h1, _, _, h4⟩ := s.dp
      obtain ⟨u, q1, q2, q3, q4⟩ := h1 i d e0
      have q5 := h4 (i, a) (by rw [hb]; exact List.mem_singleton.mpr rfl) d e0
      rw [q1] at q5
      cases q5
      refine p1 .non H G s.gr ?_
      rw [hm]
      exact ⟨.non, d, Fp i, rfl, dec_enc ok, Is.nonI, q2, q3, q4⟩
    · exact p1.elim
  · exact p1.elim

/-! ### arguments, one of them lent -/
def PostAB (C : KM) (W : WX) (σ : L2.St) (i j : Nat) (H G : Hp) (r : Res (List T)) (Q : List V → Hp → Prop) : Prop :=
  match r with
  | .ok ts => ∀ v vs H' G', σ[j]? = some (some v) → Gr H G H' G' → IsB C G' i v ts vs → Q vs H'
  | .ex x p => ∀ cls d H' G', Gr H G H' G' → XAt C x p cls d G' → W cls d σ H'
  | .bad => False
def tAB (C : KM) (B : BS) (W : WX) (i j : Nat) (f : FA) : TA := fun σ H Q => ∃ ρ G d, SR C B σ H ρ G ∧ ρ[j]? = some (.dp d) ∧ PostAB C W σ i j H G (f ρ) Q
def DAB (X : Cx) (B : BS) (W : WX) (i j : Nat) (es : List Expr) (f : FA) : Prop := PA X es (tAB (km X) B W i j f)
theorem ab_first (j : Nat) {x : Str} {pos : Pos} (hr : DA X B W .E es fr) (hN : X.N[j]? = some x := by rfl) (hv : Vis X.env.scope x := by first | exact Or.inl rfl | exact Or.inr (Or.inl rfl) | exact Or.inr (Or.inr rfl)) (hd : (x == ("__debug__" : Str)) = false := by decide)
    (hcd : (x == ("__classdict__" : Str)) = false := by decide) (hs : starEach (.Name x pos :: es) X.env = (false, eval (.Name x pos) X.env) :: starEach es X.env := by rfl) : DAB X B W 0 j (.Name x pos :: es) (aCons (eC .non) fr) :=
  PA.imp (pa_cons (pe_var hN hv hd hcd) hr hs) fun σ H Q ⟨ρ, G, d, s, e, p⟩ => by
    obtain ⟨v, F, q1, _⟩ := s.dpAt e
    refine ⟨v, q1, ρ, G, s, ?_⟩
    unfold aCons at p
    have p : PostAB (km X) W σ 0 j H G ((fr ρ).bind fun xs => .ok (.non :: xs)) Q := p
    cases er : fr ρ with
    | ok ts =>
      rw [er] at p
      intro vs H2 G2 g2 i2
      refine p v (v :: vs) H2 G2 q1 g2 ⟨?_, rfl, fun k t n z => ?_⟩
      · show ts.length + 1 = vs.length + 1
        rw [IsL.length i2]
      · cases k with
        | zero => exact (n rfl).elim
        | succ k =>
          obtain ⟨u, k1, k2⟩ := IsL.get i2 z
          exact ⟨u, k1, k2⟩
    | ex x q =>
      rw [er] at p
      exact p
    | bad =>
      rw [er] at p
      exact p
theorem ab_cons {i j : Nat} {a : Expr} (ha : DE X B W .E a fa) (hr : DAB X B W i j es fr) (hs : starEach (a :: es) X.env = (false, eval a X.env) :: starEach es X.env := by rfl) : DAB X B W (i + 1) j (a :: es) (aCons fa fr) :=
  PA.imp (pa_cons ha hr hs) fun σ H Q ⟨ρ, G, d, s, e, p⟩ => by
    refine ⟨ρ, G, s, ?_⟩
    unfold aCons at p
    cases ea : fa ρ with
    | ok t =>
      rw [ea] at p
      intro v H1 G1 g1 i1
      refine ⟨ρ, G1, d, s.ext g1, e, ?_⟩
      have p : PostAB (km X) W σ (i + 1) j H G ((fr ρ).bind fun xs => .ok (t :: xs)) Q := p
      cases er : fr ρ with
      | ok ts =>
        rw [er] at p
        intro u vs H2 G2 hu g2 i2
        refine p u (v :: vs) H2 G2 hu (g1.trans g2) ⟨?_, i2.2.1, fun k y n z => ?_⟩
        · show ts.length + 1 = vs.length + 1
          rw [i2.1]
        · cases k with
          | zero =>
            cases (show some t = some y from z)
            exact ⟨v, rfl, Is.mono g2.eg _ _ i1⟩
          | succ k => exact i2.2.2 k y (fun q => n (by rw [q])) z
      | ex x q =>
        rw [er] at p
        exact fun cls d H' G' g i => p cls d H' G' (g1.trans g) i
      | bad =>
        rw [er] at p
        exact p
    | ex x q =>
      rw [ea] at p
      exact p
    | bad =>
      rw [ea] at p
      exact p

/-! ### the call, a statement -/
def runB (j n : Nat) (g : MirB) (fr : FA) (k : T → Ev' → Out) : FS := fun ρ => match fr ρ with
  | .ok ts => if ts.length = n then (match ρ[j]? with
    | some (.dp d) => if encOk d then (match g ts d with
      | .ok t d' => k t (ρ.set j (.dp d'))
      | .ex x p d' => .ex x p (ρ.set j (.dp d'))
      | .bad => .bad) else .bad
    | _ => .bad) else .bad
  | .ex x p => (match ρ[j]? with | some (.dp _) => .ex x p ρ | _ => .bad)
  | .bad => .bad
def sSetB (i j n : Nat) (g : MirB) (fr : FA) : FS := runB j n g fr fun t ρ => .nx (ρ.set i (.sh t))
def sExpB (j n : Nat) (g : MirB) (fr : FA) : FS := runB j n g fr fun _ ρ => .nx ρ
variable {k n j : Nat} {g : MirB} {x : Str}
theorem runB_of {D : Ends} {σ : L2.St} {H G : Hp} {ρ : Ev'} {kk : T → Ev' → Out} {Q : VK} (hw : B.w = X.w) (s : SR (km X) B σ H ρ G) (p : PostS (km X) B W D G (runB j n g fr kk ρ))
    (hq : ∀ t v H1 G1 ρ1, SR (km X) B σ H1 ρ1 G1 → Is (km X) G1 t v → PostS (km X) B W D G1 (kk t ρ1) → Q v H1) (hi : i < n) : tCallS (spDB (km X) X.w n i g) (WE W) (tAB (km X) B W i j fr) σ H Q := by
  unfold runB at p
  cases er : fr ρ with
  | ok ts =>
    simp only [er] at p
    split at p
    · rename_i hl
      split at p
      · rename_i d e0
        refine ⟨ρ, G, d, s, e0, ?_⟩
        rw [er]
        split at p
        rotate_left
        · exact p.elim
        rename_i hok
        intro v vs H1 G1 hv g1 ib
        have s1 := s.ext g1
        obtain ⟨v', F, q1, q2, q3, q4⟩ := s1.dpAt e0
        rw [hv] at q1
        cases q1
        obtain ⟨a, rfl⟩ := enc_ref hok q2
        rw [hw] at q2
        refine ⟨ts, d, a, F, G1, s1.exGH, ib, hl, q2, q3, fun x m => (q4 x m).2, ?_⟩
        cases rg : g ts d with
        | ok t d' =>
          simp only [rg] at p
          intro u H2 G2 F2 g2 iu hd2 nd2 hF2
          have s2 := s1.lend e0 hv (by rw [hw]; exact q2) g2 (by rw [hw]; exact hd2) nd2 hF2
          exact hq t u H2 G2 _ s2 iu (PostS.mono (g1.eg.trans g2.eg) p)
        | ex y q d' =>
          simp only [rg] at p
          intro cls dd H2 G2 F2 g2 ix hd2 nd2 hF2
          have s2 := s1.lend e0 hv (by rw [hw]; exact q2) g2 (by rw [hw]; exact hd2) nd2 hF2
          exact p cls dd σ H2 G2 s2 (g1.eg.trans g2.eg) ix
        | bad => simp only [rg] at p; exact p.elim
      · exact p.elim
    · exact p.elim
  | ex y q =>
    simp only [er] at p
    split at p
    · rename_i d e0
      refine ⟨ρ, G, d, s, e0, ?_⟩
      rw [er]
      exact fun cls dd H' G' g' ix => p cls dd σ H' G' (s.ext g') g'.eg ix
    · exact p.elim
  | bad =>
    simp only [er] at p
    exact p.elim
section
variable {e : Expr} {es : List Expr}
theorem st_setB {i0 : Nat} {y : Str} {pos' spos : Pos} (O : OkB X.prog X.w X.K X.mg X.base k x n i g) (hr : Room k X.A) (hg : Gl X x) (tk : Tk X W) (ha : DAB X B W i j (e :: es) fr) (hN : X.N.Nodup) (hi0 : X.N[i0]? = some y) (hy : Loc X.env.scope y) (hin : i < n := by decide) (hdb : (x == ("__debug__" : Str)) = false := by decide)
    (he : starEach (e :: es) X.env = (false, eval e X.env) :: starEach es X.env := by rfl) (hpl : (backTo pos (starEach es X.env)).any (·.1) = false := by rfl) (hw : B.w = X.w := by rfl)
    (hs : swapsWith (.Call (.Name x p) (e :: es) [] pos) (some (.Name y pos')) spos.line X.env = pure false := by rfl) (hf : X.fn y = true ∨ X.env.scope.names.lookup y = some .local := by first | exact .inl rfl | exact .inr rfl | assumption) :
    DS X B W (.Assign [.Name y pos'] (.Call (.Name x p) (e :: es) [] pos) spos) (sSetB i0 j n g fr) := by
  obtain ⟨f, fd, ps, h1, h2, h3, h4⟩ := O.ex
  exact PS.imp (ps_set hN hi0 hy (pe_callS h3 hr hg h1 h2 h4 tk ha hdb he hpl) hs hf) fun D σ H ⟨ρ, G, s, p⟩ => runB_of hw s p (fun t v H1 G1 ρ1 s1 it p1 => p1 _ H1 G1 (s1.setSh it) (Ex.refl _)) hin
theorem st_expB {spos : Pos} (O : OkB X.prog X.w X.K X.mg X.base k x n i g) (hr : Room k X.A) (hg : Gl X x) (tk : Tk X W) (ha : DAB X B W i j (e :: es) fr) (hin : i < n := by decide) (hdb : (x == ("__debug__" : Str)) = false := by decide)
    (he : starEach (e :: es) X.env = (false, eval e X.env) :: starEach es X.env := by rfl) (hpl : (backTo pos (starEach es X.env)).any (·.1) = false := by rfl) (hw : B.w = X.w := by rfl)
    (hs : swapsWith (.Call (.Name x p) (e :: es) [] pos) none spos.line X.env = pure false := by rfl) :
    DS X B W (.Expr (.Call (.Name x p) (e :: es) [] pos) spos) (sExpB j n g fr) := by
  obtain ⟨f, fd, ps, h1, h2, h3, h4⟩ := O.ex
  exact PS.imp (ps_expr (pe_callS h3 hr hg h1 h2 h4 tk ha hdb he hpl) hs) fun D σ H ⟨ρ, G, s, p⟩ => runB_of hw s p (fun t v H1 G1 ρ1 s1 it p1 => p1 σ H1 G1 s1 (Ex.refl _)) hin
end
end
end VS

/-! for x in d, d a dict of one's own with nested keys; a slot that is let go -/
namespace VS
open PySem PySem.Spec PyProof.Rows L2 Evl
section
variable {X : Cx} {pins : List (Addr × Obj)} {σ : L2.St} {H : Hp} {s : Shared} {d : Addr} {o : Obj} {xs : List (NestedKey × Addr × Value)}
theorem frzN (I : Inv X pins σ H s) (h : H d = some (.frz o (NdO X.w d xs))) : s.heap.get? d = some o ∧ o.ExactDict ∧ ∃ (es : Array DictEntry) (ep : Nat), o.data = .dict es ep ∧ es.size = xs.length ∧
    ∀ (i : Nat) y, xs[i]? = some y → ∃ en, es[i]? = some en ∧ en.key = .ref y.2.1 := by
  obtain ⟨hg, ⟨o', es, ep, h1, h2, h3, h4, h5⟩, _⟩ := I.hok d _ h
  rw [hg] at h1
  cases h1
  refine ⟨hg, h2, es, ep, h3, ?_, fun i y q => ?_⟩
  · have := congrArg List.length h4
    rw [List.length_map, Array.length_toList] at this
    exact this
  · have := congrArg (fun l => l[i]?) h4
    simp only [List.getElem?_map, q, Option.map_some, Array.getElem?_toList] at this
    exact ⟨_, this, rfl⟩
end
def Itn (w : World) (d : Addr) (o : Obj) (xs : List (NestedKey × Addr × Value)) : It :=
  ⟨fun i H => H d = some (.frz o (NdO w d xs)) ∧ i < xs.length, fun i H x H' => H' = H ∧ ∃ y, xs[i]? = some y ∧ x = .ref y.2.1, fun i H => H d = some (.frz o (NdO w d xs)) ∧ xs.length ≤ i⟩
theorem turn_nd {P : Program} {w : World} {K : PySem.W.Frag} {tg : Expr} {d : Addr} {o : Obj} {es : Array DictEntry} {ep : Nat} {xs : List (NestedKey × Addr × Value)} (it : Addr) (hod : o.data = .dict es ep) :
    Turn P w K tg (Itn w d o xs) [it] it (fun i h => h.IsKeyIter it d i xs.length ep) where
  mem := by simp
  obj := fun i h st b hb => by
    have e : b = it := by simpa using hb
    subst e
    obtain ⟨oi, e, c, dd⟩ := st
    exact ⟨oi, e, fun v z => by rw [dd] at z; cases z⟩
  keep := fun i h h' st k => st.at fun oi e => k it (by simp) oi e
  item := by
    intro X hP hw hK hc i pins s σ H E I hf st hg
    subst hP hw hK
    obtain ⟨hd, hi⟩ := hg
    obtain ⟨f0, f1, f2, f3, f4, f5⟩ := hf it (by simp)
    obtain ⟨hgd, hx, es', ep', hdt, hsz, ent⟩ := frzN I hd
    obtain ⟨rfl, rfl⟩ := dict_ep hod hdt
    obtain ⟨y, hy⟩ : ∃ y, xs[i]? = some y := ⟨xs[i], List.getElem?_eq_getElem hi⟩
    obtain ⟨en, hen, hkey⟩ := ent i y hy
    refine next_key_item st hgd hdt hsz hen fun h' st' sb => ?_
    have I1 : Inv X pins σ H { s with heap := h' } := I.turned (t' := s.toks) (fun b ob hb e => (sb.2 b hb).trans e) f0 f1 f3 f4 f5
    obtain ⟨oi, e, c, dd⟩ := id st'
    exact ⟨en.key, rfl, go_of (s := { s with heap := h' }) e c dd (by decide) ⟨.ref y.2.1, H, I1, hkey, ⟨rfl, y, hy, rfl⟩, st', fun b hb => (hf b hb).1⟩⟩
  done := by
    intro X hP hw hK hc i pins s σ H E I hf st hg
    subst hP hw hK
    obtain ⟨hd, hi⟩ := hg
    obtain ⟨f0, f1, f2, f3, f4, f5⟩ := hf it (by simp)
    obtain ⟨hgd, hx, es', ep', hdt, hsz, ent⟩ := frzN I hd
    obtain ⟨rfl, rfl⟩ := dict_ep hod hdt
    exact next_key_end (I.ok.hd hc) st hgd hdt hsz hi fun h' eb => ⟨rfl, I.turned (t' := s.toks) (fun b ob hb e => eb b ob hb e) f0 f1 f3 f4 f5⟩
  self := fun A i s Q E st h => wpAny_pyIter_keyiter st h
def iNd (w : World) (td : TE) : TI := fun σ H R => td σ H fun x H1 => ∃ d o xs, x = .ref d ∧ (d == sysModules) = false ∧ H1 d = some (.frz o (NdO w d xs)) ∧ R (Itn w d o xs) H1
theorem pi_nd {X : Cx} {tg e : Expr} {td : TE} (he : PE X e td) : PI X tg e (iNd X.w td) := by
  refine ⟨fun pins s σ H R I h => ?_⟩
  refine thn (he.run pins s σ H _ I h) fun u s1 ⟨x, H1, I1, rx, d, o, xs, ex, hs, hd, q⟩ => ?_
  subst ex
  obtain rfl : u = Value.ref d := rx
  obtain ⟨hgd, hx, es, ep, hdt, hsz, ent⟩ := frzN I1 hd
  refine iter_keys hs hgd hx hdt (pi_one (tk := s1.toks) I1 _ (turn_nd _ hdt) ⟨_, Heap.get?_push_size _ rfl, rfl, ?_⟩ q)
  rw [hsz] <;> rfl
/-! ### the slot goes to the base while the loop runs -/
abbrev BS.up (B : BS) (h : Hp) : BS := ⟨h, B.g, B.xa, B.rm, B.w, B.bi⟩
section
variable {C : KM} {B : BS} {σ : L2.St} {H G : Hp} {ρ : Ev'} {j : Nat} {ks ws : List T} {d : Addr}
theorem SR.letGo (s : SR C B σ H ρ G) (e : ρ[j]? = some (.dp (.dt ks ws))) (ev : σ[j]? = some (some (.ref d))) (u : HO) : SR C (B.up (upd B.h d u)) σ (upd H d u) (ρ.set j .un) G := by
  obtain ⟨Fp, h1, h2, h3, h4⟩ := s.dp
  obtain ⟨v, q1, q2, q3, q4⟩ := h1 j _ e
  rw [ev] at q1
  cases q1
  have md : d ∈ Fp j := by
    obtain ⟨d', xs, vs, e1, n, eF⟩ := dt_open q2
    cases e1
    rw [eF]
    exact List.mem_singleton.mpr rfl
  have hG : G d = none := (q4 d md).2
  have hB : B.h d = none := (q4 d md).1
  have old : ∀ {k : Nat} {x : Sl}, x ≠ .un → (ρ.set j .un)[k]? = some x → k ≠ j ∧ ρ[k]? = some x := fun {k x} hx z => by
    rcases set_get z with ⟨_, w⟩ | w
    · exact (hx w).elim
    · exact w
  refine ⟨⟨Ex.upd2 s.gr.eh, s.gr.eg, Ex.mut s.gr.gh hG, fun a o g z => ?_⟩, fun k t z => ?_, fun k t z => ?_, fun k l t t' a n z1 z2 z3 z4 => ?_, by rw [List.length_set]; exact s.len, fun k y p z => ?_, ?_⟩
  · by_cases ad : a = d
    · rw [ad]; exact hG
    · have z : upd B.h d u a = some o := z
      rw [upd_ne ad] at z
      exact s.gr.sep a o g z
  · exact s.sh k t (old (fun z => by cases z) z).2
  · obtain ⟨n, z⟩ := old (fun z => by cases z) z
    obtain ⟨a, o, k1, k2, k3, k4, k5⟩ := s.ow k t z
    have ad : a ≠ d := fun q => h3 j k _ t a e z k1 (by rw [q]; exact md)
    exact ⟨a, o, k1, by show upd B.h d u a = none; rw [upd_ne ad]; exact k2, by rw [upd_ne ad]; exact k3, k4, k5⟩
  · exact s.ds k l t t' a n (old (fun z => by cases z) z1).2 (old (fun z => by cases z) z2).2 z3 z4
  · obtain ⟨a, cls, dd, k1, k2, k3⟩ := s.xn k y p (old (fun z => by cases z) z).2
    exact ⟨a, cls, dd, k1, k2, k3⟩
  · refine ⟨Fp, fun k c z => ?_, fun k l c1 c2 x n z1 z2 => h2 k l c1 c2 x n (old (fun z => by cases z) z1).2 (old (fun z => by cases z) z2).2, fun k l c t a z1 z2 => h3 k l c t a (old (fun z => by cases z) z1).2 (old (fun z => by cases z) z2).2, fun p mp c z => h4 p mp c (old (fun z => by cases z) z).2⟩
    obtain ⟨n, z⟩ := old (fun z => by cases z) z
    obtain ⟨v, k1, k2, k3, k4⟩ := h1 k c z
    have out : ∀ x ∈ Fp k, x ≠ d := fun x m q => h2 k j c _ x n z e m (by rw [q]; exact md)
    refine ⟨v, k1, k2.mono (Ex.refl _) _ _ _ (fun x m o zo => by rw [upd_ne (out x m)]; exact zo), k3, fun x m => ⟨?_, (k4 x m).2⟩⟩
    show upd B.h d u x = none
    rw [upd_ne (out x m)]
    exact (k4 x m).1
theorem gr_down {h : Hp} {H' G' : Hp} (sub : ∀ x o, B.h x = some o → h x = some o) (g : Gr h B.g H' G') : Gr B.h B.g H' G' := ⟨fun x o z => g.eh x o (sub x o z), g.eg, g.gh, fun a o q z => g.sep a o q (sub a o z)⟩
theorem none_down {h : Hp} (sub : ∀ x o, B.h x = some o → h x = some o) {x : Addr} (z : h x = none) : B.h x = none := by
  cases q : B.h x with
  | none => rfl
  | some o => rw [sub x o q] at z; cases z
theorem SR.down {h : Hp} (sub : ∀ x o, B.h x = some o → h x = some o) (s : SR C (B.up h) σ H ρ G) : SR C B σ H ρ G := by
  obtain ⟨Fp, h1, h2, h3, h4⟩ := s.dp
  refine ⟨gr_down sub s.gr, s.sh, fun k t z => ?_, s.ds, s.len, s.xn, Fp, fun k c z => ?_, h2, h3, h4⟩
  · obtain ⟨a, o, k1, k2, k3⟩ := s.ow k t z
    exact ⟨a, o, k1, none_down sub k2, k3⟩
  · obtain ⟨v, k1, k2, k3, k4⟩ := h1 k c z
    exact ⟨v, k1, k2, k3, fun x m => ⟨none_down sub (k4 x m).1, (k4 x m).2⟩⟩
theorem PostS.down {W : WX} {D : Ends} {o : Out} {h : Hp} (sub : ∀ x o, B.h x = some o → h x = some o) (p : PostS C B W D G o) : PostS C (B.up h) W D G o := by
  cases o with
  | nx ρ => exact fun σ' H' G' s k => p σ' H' G' (s.down sub) k
  | bk ρ => exact fun σ' H' G' s k => p σ' H' G' (s.down sub) k
  | ct ρ => exact fun σ' H' G' s k => p σ' H' G' (s.down sub) k
  | rt t =>
    intro v H' G' g i
    refine p v H' G' (gr_down sub g) ?_
    obtain ⟨bh, bg, bx, br, bw, bb⟩ := B
    cases br with
    | E => exact i
    | N =>
      obtain ⟨a, o, k1, k2, k3⟩ := i
      exact ⟨a, o, k1, none_down (B := ⟨bh, bg, bx, .N, bw, bb⟩) sub k2, k3⟩
    | D =>
      obtain ⟨d, F, k1, k2, k3, k4⟩ := i
      exact ⟨d, F, k1, k2, k3, fun x m => ⟨none_down (B := ⟨bh, bg, bx, .D, bw, bb⟩) sub (k4 x m).1, (k4 x m).2⟩⟩
    | B a =>
      obtain ⟨u, d, F, k1, k2, k3, k4, k5, k6⟩ := i
      exact ⟨u, d, F, k1, k2, k3, k4, k5, fun x m => ⟨none_down (B := ⟨bh, bg, bx, .B a, bw, bb⟩) sub (k6 x m).1, (k6 x m).2⟩⟩
  | ex x p' ρ => exact fun cls d σ' H' G' s k => p cls d σ' H' G' (s.down sub) k
  | bad => exact p
end
def noRt (o : Out) : Out := match o with
  | .rt _ => .bad
  | o => o
def sForD (j : Nat) (g : Tg) (body : FS) : FS := fun ρ => match ρ[j]? with
  | some (.dp (.dt ks _)) => noRt (loopF g body ks (ρ.set j .un))
  | _ => .bad
theorem st_forD {X : Cx} {B : BS} {W : WX} {tg : Expr} {x : Str} {p pos : Pos} {body : List Stmt} {g : Tg} {f : FS} (j : Nat) (hp : PassesOwn (model X.prog X.w) X.A X.env X.xe) (hc : X.calm = true) (hg : DG X tg g) (hb : ∀ h, DSs X (B.up h) W body f)
    (hN : X.N[j]? = some x := by rfl) (hv : Vis X.env.scope x := by first | exact Or.inl rfl | exact Or.inr (Or.inl rfl) | exact Or.inr (Or.inr rfl)) (hd : (x == ("__debug__" : Str)) = false := by decide) (hcd : (x == ("__classdict__" : Str)) = false := by decide) (hw : B.w = X.w := by rfl)
    (hs : ∀ y, foldedSetIterable (.Name x p) X.env y = pure y := by intro _; rfl) : DS X B W (.For tg (.Name x p) body [] pos) (sForD j g f) := by
  have hb' : PSs X body (fun D σ H => ∃ h, tS (km X) (B.up h) W f D σ H) := ⟨fun pins s σ H D I ⟨h, q⟩ => (hb h).run pins s σ H D I q⟩
  refine PS.imp (ps_lock (ps_for hp hc (pi_nd (pe_var hN hv hd hcd)) hg hb' hs)) fun D σ H ⟨ρ, G, s, p⟩ => ?_
  unfold sForD at p
  split at p
  rotate_left
  · exact p.elim
  rename_i ks ws e0
  obtain ⟨v, F, q1, q2, q3, q4⟩ := s.dpAt e0
  obtain ⟨a, xs, vs, rfl, n, rfl⟩ := dt_open q2
  rw [hw] at n
  refine ⟨a, NdO X.w a xs, n.at_, trivial, fun od => ⟨.ref a, q1, a, od, xs, rfl, n.ms, upd_same, ?_⟩⟩
  have hBa : B.h a = none := (q4 a (List.mem_singleton.mpr rfl)).1
  have hGa : G a = none := (q4 a (List.mem_singleton.mpr rfl)).2
  have sub : ∀ x o, B.h x = some o → upd B.h a (.frz od (NdO X.w a xs)) x = some o := fun x o z => by
    rw [upd_ne (fun q => by rw [q, hBa] at z; cases z)]
    exact z
  have s0 := s.letGo e0 q1 (.frz od (NdO X.w a xs))
  -- what is locked stays; it may be let go of
  have stays : ∀ {σ' : L2.St} {H' G' : Hp} {ρ' : Ev'}, SR (km X) (B.up (upd B.h a (.frz od (NdO X.w a xs)))) σ' H' ρ' G' → H' a = some (.frz od (NdO X.w a xs)) := fun s' => s'.gr.eh _ _ upd_same
  have loose : ∀ {σ' : L2.St} {H' G' : Hp} {ρ' : Ev'}, SR (km X) (B.up (upd B.h a (.frz od (NdO X.w a xs)))) σ' H' ρ' G' → SR (km X) B σ' (upd H' a (NdO X.w a xs)) ρ' G' := fun {σ' H' G' ρ'} s' => by
    have gn : G' a = none := s'.gr.sep a _ (by
      cases z : B.g a with
      | none => rfl
      | some o => rw [s.gr.eg _ _ z] at hGa; cases hGa) upd_same
    refine (s'.down sub).beside hBa gn (fun k t z q => ?_) (fun k c v F z zv zd m => ?_)
    · obtain ⟨b, o, k1, k2, _⟩ := s'.ow k t z
      rw [q] at k1
      cases k1
      have k2 : upd B.h a (.frz od (NdO X.w a xs)) a = none := k2
      rw [upd_same] at k2
      cases k2
    · obtain ⟨v', F', k1, k2, k3, k4⟩ := s'.dpAt z
      rw [zv] at k1
      cases k1
      have eF := k2.det (Ex.refl _) _ _ _ _ (fun x _ o z => z) zd
      have k5 : upd B.h a (.frz od (NdO X.w a xs)) a = none := (k4 a (by rw [eF]; exact m)).1
      rw [upd_same] at k5
      cases k5
  -- the ends, seen from inside
  have inside : ∀ {o : Out}, PostS (km X) B W D G (noRt o) → PostS (km X) (B.up (upd B.h a (.frz od (NdO X.w a xs)))) W ⟨fun σ' H' => H' a = some (.frz od (NdO X.w a xs)) ∧ D.nx σ' (upd H' a (NdO X.w a xs)), fun v H' => H' a = some (.frz od (NdO X.w a xs)) ∧ D.rt v (upd H' a (NdO X.w a xs)), fun σ' H' => H' a = some (.frz od (NdO X.w a xs)) ∧ D.bk σ' (upd H' a (NdO X.w a xs)), fun σ' H' => H' a = some (.frz od (NdO X.w a xs)) ∧ D.ct σ' (upd H' a (NdO X.w a xs))⟩ G o := fun {o} q => by
    cases o with
    | nx ρ' => exact fun σ' H' G' s' k => ⟨stays s', q σ' _ G' (loose s') k⟩
    | bk ρ' => exact fun σ' H' G' s' k => ⟨stays s', q σ' _ G' (loose s') k⟩
    | ct ρ' => exact fun σ' H' G' s' k => ⟨stays s', q σ' _ G' (loose s') k⟩
    | rt t => exact q.elim
    | ex y q' ρ' => exact fun cls dd σ' H' G' s' k xa => q cls dd σ' H' G' (s'.down sub) k xa
    | bad => exact q
  have p0 := inside p
  have hl : ks.length = xs.length := Paired.len n.ka
  have ik := n.ik
  clear inside p
  generalize (⟨fun σ' H' => H' a = some (.frz od (NdO X.w a xs)) ∧ D.nx σ' (upd H' a (NdO X.w a xs)), fun v H' => H' a = some (.frz od (NdO X.w a xs)) ∧ D.rt v (upd H' a (NdO X.w a xs)), fun σ' H' => H' a = some (.frz od (NdO X.w a xs)) ∧ D.bk σ' (upd H' a (NdO X.w a xs)), fun σ' H' => H' a = some (.frz od (NdO X.w a xs)) ∧ D.ct σ' (upd H' a (NdO X.w a xs))⟩ : Ends) = D' at p0 ⊢
  refine ⟨fun i m σ' H' => m = ks.length - i ∧ i ≤ ks.length ∧ ∃ ρ' G', SR (km X) (B.up (upd B.h a (.frz od (NdO X.w a xs)))) σ' H' ρ' G' ∧ Ex G G' ∧ PostS (km X) (B.up (upd B.h a (.frz od (NdO X.w a xs)))) W D' G' (loopF g f (ks.drop i) ρ'), ⟨_, rfl, Nat.zero_le _, _, G, s0, Ex.refl _, p0⟩, ?_⟩
  rintro i m σ' H' ⟨rfl, hi, ρ', G', s', e', p'⟩
  by_cases hlt : i < ks.length
  · have hdr : ks.drop i = ks[i] :: ks.drop (i + 1) := List.drop_eq_getElem_cons hlt
    rw [hdr] at p'
    refine .inr ⟨⟨stays s', by omega⟩, fun σ2 H2 => i + 1 ≤ ks.length ∧ ∃ ρ2 G2, SR (km X) (B.up (upd B.h a (.frz od (NdO X.w a xs)))) σ2 H2 ρ2 G2 ∧ Ex G G2 ∧ PostS (km X) (B.up (upd B.h a (.frz od (NdO X.w a xs)))) W D' G2 (loopF g f (ks.drop (i + 1)) ρ2), fun σ2 H2 ⟨h1, h2⟩ => ⟨ks.length - (i + 1), by omega, rfl, h1, h2⟩, fun x H2 y => ?_⟩
    obtain ⟨rfl, y0, hy, rfl⟩ := y
    have ix : Is (km X) G' ks[i] (.ref y0.2.1) := by
      obtain ⟨v, hv', iv⟩ := ik.get (List.getElem?_eq_getElem hlt)
      rw [List.getElem?_map, hy] at hv'
      cases hv'
      exact Is.mono e' _ _ iv
    have p2 := p'
    unfold loopF at p2
    cases et : setT g ks[i] ρ' with
    | none =>
      rw [et] at p2
      exact p2.elim
    | some ρ1 =>
      rw [et] at p2
      refine tg_of (C := km X) s' ix et fun σ3 s3 => ⟨upd B.h a (.frz od (NdO X.w a xs)), ρ1, G', s3, ?_⟩
      cases eb : f ρ1 with
      | nx ρ4 =>
        simp only [eb] at p2
        exact fun σ4 H4 G4 s4 k4 => ⟨hlt, ρ4, G4, s4, e'.trans k4, PostS.mono k4 p2⟩
      | ct ρ4 =>
        simp only [eb] at p2
        exact fun σ4 H4 G4 s4 k4 => ⟨hlt, ρ4, G4, s4, e'.trans k4, PostS.mono k4 p2⟩
      | bk ρ4 =>
        simp only [eb] at p2
        exact p2
      | rt t =>
        simp only [eb] at p2
        exact p2
      | ex x q r =>
        simp only [eb] at p2
        exact p2
      | bad =>
        simp only [eb] at p2
        exact p2.elim
  · have e : i = ks.length := by omega
    subst e
    rw [List.drop_length] at p'
    exact .inl ⟨⟨stays s', by omega⟩, p' σ' H' G' s' (Ex.refl _)⟩
end VS

/-! list(d), d a dict of one's own with nested keys -/
namespace VS
open PySem PySem.Spec PyProof.Rows L2 Evl
theorem vals_of : ∀ (vs : List V) (us : List Value), vs.length = us.length → (∀ (i : Nat) (v : V) (u : Value), vs[i]? = some v → us[i]? = some u → RelV v u) → L2.Vals vs us
  | [], [], _, _ => .nil
  | v :: vs, u :: us, h, k => .cons (k 0 v u rfl rfl) (vals_of vs us (Nat.succ.inj h) fun i v u h1 h2 => k (i + 1) v u h1 h2)
def rNdList (X : Cx) : List V → Hp → VK → Prop := fun us H Q => ∃ d ks ws xs vs G, us = [.ref d] ∧ Ex G H ∧ NdI (km X) X.w H G d ks ws xs vs ∧ ∀ p, H p = none → Q (.ref p) (upd H p (.lst (xs.map fun x => .ref x.2.1)))
theorem c_ndList {X : Cx} (hc : X.calm = true) : CallR X (.type "list") (rNdList X) := by
  intro pins s σ H ys us Q I r h
  obtain ⟨d, ks, ws, xs, vs, G, rfl, ex, n, q⟩ := h
  cases r with
  | cons r rr =>
    cases rr
    cases r
    have dd := dt_h I ex n.at_ n.ka n.ik
    obtain ⟨es, ep, hr, hz, he⟩ := dd.raw
    refine PySem.W.kdl_call (PySem.KdlSrc.rawDict n.ms) (I.ok.hd hc) hr (by rw [hz]; exact n.sz) fun h' tk acc c hk hS hacc => ?_
    refine ⟨.ref s.heap.objs.size, upd H s.heap.objs.size (.lst (xs.map fun x => .ref x.2.1)), ?_, rfl, q _ (I.hok.fresh (Nat.le_refl _))⟩
    refine I.laid (t' := tk) (fun b u e => hk b u e) (Nat.le_refl _) ⟨by rw [List.length_map]; exact n.sz, acc.toList, c, vals_of _ _ (by have h0 := hacc.1; rw [hz] at h0; rw [List.length_map]; simpa using h0.symm) fun i v u h1 h2 => ?_, by rw [Array.toArray_toList]; exact hS⟩
    rw [Array.getElem?_toList] at h2
    obtain ⟨hi, eu⟩ := hacc.2 i u h2
    obtain ⟨y, hy, ek, _⟩ := he i hi
    rw [List.getElem?_map, hy] at h1
    cases h1
    rw [eu, ek]
    rfl
def eDtKeys (i : Nat) : FE := fun ρ => match ρ[i]? with | some (.dp (.dt ks _)) => .ok (.lst ks) | _ => .bad
theorem d_ndList {X : Cx} {B : BS} {W : WX} {i : Nat} {x : Str} {p p2 pos : Pos} (hc : X.calm = true) (hg : Gl X "list") (hm : X.mg "list" = none) (hN : X.N[i]? = some x) (hv : Vis X.env.scope x) (hd : (x == ("__debug__" : Str)) = false := by decide) (hcd : (x == ("__classdict__" : Str)) = false := by decide) (hw : B.w = X.w := by rfl)
    (hb : bootBuiltins "list" = some (.type "list") := by decide +kernel) (he : starEach [.Name x p2] X.env = (false, eval (.Name x p2) X.env) :: starEach [] X.env := by rfl) : DE X B W .N (.Call (.Name "list" p) [.Name x p2] [] pos) (eDtKeys i) :=
  PE.imp (pe_callTy (c_ndList hc) hg hm hb (pa_cons (pe_var hN hv hd hcd) pa_nil he) (by decide) (by decide) he rfl) fun σ H Q ⟨ρ, G, s, q⟩ => by
    unfold eDtKeys at q
    split at q
    · rename_i ks ws e
      obtain ⟨v', F, q1, q2, _, _⟩ := s.dpAt e
      obtain ⟨d, xs, vs, rfl, n, _⟩ := dt_open q2
      rw [hw] at n
      exact ⟨.ref d, q1, d, ks, ws, xs, vs, G, rfl, s.exGH, n, fun p hp => q _ _ G (Gr.own s.exGH hp) ⟨p, _, rfl, hp, upd_same, ex_none s.exGH hp, _, rfl, n.ik⟩⟩
    · exact q.elim
end VS

/-! x in d.values(): asked of the iterator, one by one -/
namespace VS
open PySem PySem.Spec PyProof.Rows L2 Evl
theorem plain_ci : plainId "proto.contains_iter" = true := by decide +kernel
theorem entry_ci : entryFor table "proto.contains_iter" = some Builtin.«proto.contains_iter» := entryFor_of_fast (by kernel_rfl)
theorem vals_no_contains : typeLookup (.type "dict_values") "__contains__" = pure none := by rw [typeLookup_type, builtinLookup_eq_fast]; kernel_rfl
section
variable {prog : Program} {w : World} {A : Around} {R : Result → Shared → Prop} {I : Addr} {fp wr : List Addr} {n : Nat} {P : Nat → Value → Prop} {St : Nat → Heap → Prop}
theorem ci_loop (W : Walks prog w A.in1 I fp wr n P St) (x : Value) (b : Nat → Bool) (hb : ∀ i v s, P i v → SeqAt.EqAt A.in1 s v x (b i)) : ∀ (k i : Nat) (s : Shared), n - i = k → i ≤ n → St i s.heap →
    (∀ h' tk, (∀ a o, a ∉ wr → s.heap.get? a = some o → h'.get? a = some o) → R (.ok (.ret (.bool ((List.range' i (n - i)).any b)))) { s with heap := h', toks := tk }) →
    codeAny (model prog w) A (.builtin "proto.contains_iter" ⟨[.ref I, x], []⟩) R s := by
  intro k
  induction k with
  | zero =>
    intro i s hk hi hst hR
    have hin : i = n := by omega
    subst hin
    refine codeAny_builtin entry_ci ?_
    rw [Around.under_plainId plain_ci _]
    show wpAny _ A.in1 (pyNext (.ref I) >>= _) _ _ s
    refine wpAny_bind (W.done s _ _ hst fun h' tk hm => ?_)
    have hR' := hR h' tk hm
    rw [Nat.sub_self] at hR'
    exact wpAny_bind (wpAny_rule (wpAny_pure hR'))
  | succ k ih =>
    intro i s hk hi hst hR
    have hlt : i < n := by omega
    refine codeAny_builtin entry_ci ?_
    rw [Around.under_plainId plain_ci _]
    show wpAny _ A.in1 (pyNext (.ref I) >>= _) _ _ s
    refine wpAny_bind (W.item i s _ _ hlt hst fun v h' tk hP hst' hm => ?_)
    show wpAny _ A.in1 (eqBool v x >>= _) _ _ _
    have er : List.range' i (n - i) = i :: List.range' (i + 1) (n - (i + 1)) := by
      have : n - i = (n - (i + 1)) + 1 := by omega
      rw [this, List.range'_succ]
    refine wpAny_bind (hb i v _ hP _ _ _ _ ?_)
    cases q : b i with
    | true =>
      have hR' := hR h' tk hm
      rw [er, List.any_cons, q] at hR'
      exact wpAny_bind (wpAny_rule (wpAny_pure hR'))
    | false =>
      refine wpAny_pure ⟨plainId_quiet plain_ci _, ih (i + 1) _ (by omega) hlt hst' fun h2 tk2 hm2 => ?_⟩
      have hR' := hR h2 tk2 fun a o ha e => hm2 a o ha (hm a o ha e)
      rw [er, List.any_cons, q] at hR'
      exact hR'
end
section
variable {prog : Program} {w : World} {A : Around} {E : Value → Shared → Prop} {s : Shared}
theorem in_vals {v d : Addr} {es : Array DictEntry} {ep : Nat} {x : Value} {b : Nat → Bool} {Q : Bool → Shared → Prop} (hh : A.handled = none) (hv : s.heap.IsValuesView v d) (hm : s.heap.DictRaw d es ep)
    (hb : ∀ (i : Nat) (hi : i < es.size) (s : Shared), SeqAt.EqAt A.in1 s es[i].val x (b i)) (h : ∀ h' tk, (∀ a o, s.heap.get? a = some o → h'.get? a = some o) → Q ((List.range es.size).any b) { s with heap := h', toks := tk }) :
    wpAny (model prog w) A (contains (.ref v) x) Q E s := by
  unfold contains
  refine wpAny_holding ?_
  rw [stdlibNamesSay?_of_typeIs hv.typeIs]
  refine wpAny_bind (wpAny_specialOf hv.typeIs vals_no_contains ?_)
  rw [if_neg (by decide)]
  refine wpAny_bind ?_
  unfold callSpecialUnlessNone?
  refine wpAny_bind (wpAny_specialOf hv.typeIs vals_no_contains ?_)
  refine wpAny_pure ?_
  refine wpAny_bind (wpAny_rule ?_)
  refine wpAny_bind (wpAny_tryCatch (wpAny_pyIter_values_raw hv hm ?_))
  have hlt : d < s.heap.objs.size := hm.lt_size
  refine wpAny_bind (wpAny_runValue (ci_loop (Walks.rawValues (A := A.in1) hh s.heap.objs.size d (Nat.ne_of_lt hlt) es ep) x b (fun i v s ⟨hi, e⟩ => by rw [e]; exact hb i hi s) es.size 0 _ rfl (Nat.zero_le _) ⟨⟨_, Heap.get?_push_size _ rfl, rfl, rfl⟩, hm.push _⟩ fun h' tk hk => ?_))
  refine wpAny_pure ?_
  rw [Nat.sub_zero, ← List.range_eq_range']
  refine h h' tk fun a o e => hk a o (fun z => ?_) (Heap.get?_push_of_some _ e)
  rw [List.mem_singleton.mp z] at e
  exact absurd (Heap.lt_size e) (Nat.lt_irrefl _)
end
/-! ### k not in d.values(), d a dict of one's own whose values are texts -/
def VwO (p d : Addr) : HO := .ext fun h => h.IsValuesView p d
section
variable {X : Cx} {B : BS} {W : WX} {a : Expr} {fa : FE} {x : Str} {i : Nat} {pn apos cpos pos : Pos}
def tNdVals (w : World) (j : Nat) : TE := fun σ H Q => ∃ d o xs, σ[j]? = some (some (.ref d)) ∧ (d == sysModules) = false ∧ H d = some (NdO w d xs) ∧ o = d ∧ ∀ p, H p = none → Q (.ref p) (upd H p (VwO p d))
theorem pe_ndVals {j : Nat} (hN : X.N[j]? = some x) (hv : Vis X.env.scope x) (hd : (x == ("__debug__" : Str)) = false := by decide) (hcd : (x == ("__classdict__" : Str)) = false := by decide)
    (hbase : attributeBase (.Name x pn) "values" X.env (eval (.Name x pn) X.env) = eval (.Name x pn) X.env := by rfl) (hline : (apos.endLine == cpos.line) = true := by rfl) : PE X (.Call (.Attribute (.Name x pn) "values" apos) [] [] cpos) (tNdVals X.w j) := by
  refine ⟨fun pins s σ H Q I h => ?_⟩
  obtain ⟨d, o, xs, e, hs, hd2, _, q⟩ := h
  refine wpAny_Call_method (T := "dict") (id := "dict.values") hbase rfl hline F.plainAttrs_dict F.slot_dict_values F.type_dict_values (thn ((pe_var hN hv hd hcd).run pins s σ H (fun v H' => v = .ref d ∧ H' = H) I ⟨.ref d, e, rfl, rfl⟩) fun u s1 ⟨v, H1, I1, rx, ev, eH⟩ => ?_)
  subst ev
  subst eH
  obtain rfl : u = Value.ref d := rx
  obtain ⟨⟨o1, es, ep, g1, g2, g3, g4, g5⟩, _⟩ := (show ObjOk X.prog X.w H1 s1.heap d (NdO X.w d xs) from I1.hok d _ hd2)
  have raw : s1.heap.DictRaw d es ep := ⟨o1, g1, g2, g3⟩
  refine ⟨raw.typeIs, fun b eb => ?_, ?_⟩
  · cases eb
    exact ⟨o1, g1, g2.2.1⟩
  · show wpAny _ _ (callWith cpos (.builtin "dict.values") [.ref d] [] []) _ X.xe s1
    refine method_meetsIn F.slot_dict_values F.entry_dict_values rfl (PySem.evalArgs_none ⟨rfl, raw.typeIs, F.args_dict_values_1 _, _, meets_dict_values_raw d hs, ⟨es, ep, raw⟩, ?_⟩)
    refine ⟨.ref s1.heap.objs.size, _, I1.laid (a := s1.heap.objs.size) (o := VwO s1.heap.objs.size d) (t' := s1.toks) (fun _ _ q => Heap.get?_push_of_some _ q) (Nat.le_refl _) ⟨⟨_, Heap.get?_push_size _ rfl, rfl, rfl⟩, ⟨_, Heap.get?_push_size _ rfl⟩, fun h1 h2 ⟨o', k1, k2⟩ k => ⟨o', k _ k1, k2⟩⟩, rfl, q _ (I1.hok.fresh (Nat.le_refl _))⟩
theorem range_any {α : Type} (f : α → Bool) (l : List α) : ((List.range l.length).any fun i => ((l[i]?).map f).getD false) = l.any f := by
  rw [Bool.eq_iff_iff, List.any_eq_true, List.any_eq_true]
  constructor
  · rintro ⟨i, hi, h⟩
    cases q : l[i]? with
    | none => rw [q] at h; cases h
    | some y =>
      rw [q] at h
      exact ⟨y, List.mem_of_getElem? q, h⟩
  · rintro ⟨y, hy, h⟩
    obtain ⟨i, hi, e⟩ := List.mem_iff_getElem.mp hy
    refine ⟨i, List.mem_range.mpr hi, ?_⟩
    rw [List.getElem?_eq_getElem hi, e]
    exact h
def rNdVn (X : Cx) : R2 := fun y z H Q => ∃ (p d : Addr) (xs : List (NestedKey × Addr × Value)) (l : List Str) (yy : Str) (ks ws : List T) (vs : List V) (G : Hp), y = .str yy ∧ z = .ref p ∧ H p = some (VwO p d) ∧ Ex G H ∧ NdI (km X) X.w H G d ks ws xs vs ∧ vs = l.map V.str ∧ Q (.bl (!(l.any fun z => z == yy))) H
theorem op_ndVn (hc : X.calm = true) : OpR X (compareOp .NotIn) (rNdVn X) := by
  intro pins s σ H y z v u Q I ry rz h
  obtain ⟨p, d, xs, l, yy, ks, ws, vs, G, rfl, rfl, hp, ex, n, rfl, q⟩ := h
  cases (show u = Value.ref p from rz)
  obtain ⟨t, rfl⟩ := (show ∃ t, v = Value.str yy t from ry)
  have vw : s.heap.IsValuesView p d := (show ObjOk X.prog X.w H s.heap p (VwO p d) from I.hok p _ hp).1
  obtain ⟨es, ep, hr, hz, he⟩ := (dt_h I ex n.at_ n.ka n.ik).raw
  have hl : l.length = xs.length := by
    have := Paired.len n.rv
    rw [List.length_map, List.length_map] at this
    exact this
  refine (show wpAny (model X.prog X.w) X.A (do return Value.bool (!(← contains (.ref p) (.str yy t)))) (EP X pins σ Q) X.xe s from wpAny_bind (in_vals (b := fun i => ((l[i]?).map fun z => z == yy).getD false) (I.ok.hd hc) vw hr (fun i hi s' => ?_) fun h' tk hk => wpAny_pure ?_))
  · obtain ⟨y, hy, _, ev, _⟩ := he i hi
    obtain ⟨u, hu, ru⟩ := n.rv.get (i := i) (x := .str l[i]) (by
      have hil : i < l.length := by omega
      rw [List.getElem?_map, List.getElem?_eq_getElem hil]
      rfl)
    have hil : i < l.length := by omega
    rw [List.getElem?_map, hy] at hu
    cases hu
    obtain ⟨t', e'⟩ := (show ∃ t', y.2.2 = Value.str l[i] t' from ru)
    rw [ev, e', List.getElem?_eq_getElem hil]
    exact SeqAt.EqAt.str_str _ _ _ _
  · rw [hz, ← hl, range_any]
    exact ⟨.bl (!(l.any fun z => z == yy)), H, I.kept (t' := tk) hk, rfl, q⟩
def eVnin (i : Nat) (fa : FE) : FE := fun ρ => (fa ρ).bind fun k => match k, ρ[i]? with
  | .str y, some (.dp (.dt _ ws)) => (match strs? ws with | some l => .ok (.bl (!(l.any fun z => z == y))) | none => .bad)
  | _, _ => .bad
theorem strs_is {C : KM} {G : Hp} : ∀ {ws : List T} {l : List Str} {vs : List V}, strs? ws = some l → IsL C G ws vs → vs = l.map V.str
  | [], l, vs, e, h => by cases e; unfold IsL at h; exact h
  | w :: ws, l, vs, e, h => by
    unfold IsL at h
    obtain ⟨v, r, rfl, h2, h3⟩ := h
    cases w with
    | str y =>
      have e' : (strs? ws).map (y :: ·) = some l := e
      cases q : strs? ws with
      | none => rw [q] at e'; cases e'
      | some l' =>
        rw [q] at e'
        cases e'
        unfold Is at h2
        rw [strs_is q h3, h2]
        rfl
    | _ => cases e
theorem vn_of {σ : L2.St} {H G : Hp} {ρ : Ev'} {Q : VK} (s : SR (km X) B σ H ρ G) (hw : B.w = X.w) (q : Post (km X) .E W σ H G (eVnin i fa ρ) Q) : tOp (rNdVn X) (tM (km X) B .E W fa) (tNdVals X.w i) σ H Q :=
  bindE s q fun kt v H1 G1 g s1 ik p1 => by
    split at p1
    · rename_i yy ks ws e
      split at p1
      · rename_i l el
        obtain ⟨v', F, q1, q2, _, _⟩ := s1.dpAt e
        obtain ⟨d, xs, vs, rfl, n, _⟩ := dt_open q2
        rw [hw] at n
        unfold Is at ik
        subst ik
        refine ⟨d, d, xs, q1, n.ms, n.at_, rfl, fun p hp => ?_⟩
        have gn : G1 p = none := ex_none s1.exGH hp
        have pd : d ≠ p := fun z => by have := n.at_; rw [z, hp] at this; cases this
        exact ⟨p, d, xs, l, yy, ks, ws, vs, G1, rfl, rfl, upd_same, Ex.mut s1.exGH gn, ⟨n.ms, by rw [upd_ne pd]; exact n.at_, n.sz, n.ka, n.ik, n.rv, n.iv⟩, strs_is el n.iv, p1 _ _ G1 (Gr.own s1.exGH hp) (show VS.Is (km X) G1 (.bl _) _ from Is.blI)⟩
      · exact p1.elim
    · exact p1.elim
theorem d_ndVn (hc : X.calm = true) (ha : DE X B W .E a fa) (hN : X.N[i]? = some x) (hv : Vis X.env.scope x) (hd : (x == ("__debug__" : Str)) = false := by decide) (hcd : (x == ("__classdict__" : Str)) = false := by decide) (hw : B.w = X.w := by rfl)
    (hbase : attributeBase (.Name x pn) "values" X.env (eval (.Name x pn) X.env) = eval (.Name x pn) X.env := by rfl) (hline : (apos.endLine == cpos.line) = true := by rfl)
    (hm : behindInMarks .NotIn (.Call (.Attribute (.Name x pn) "values" apos) [] [] cpos) = false := by rfl) : DE X B W .E (.Compare a [.NotIn] [.Call (.Attribute (.Name x pn) "values" apos) [] [] cpos] pos) (eVnin i fa) :=
  PE.imp (pe_cmpR (op_ndVn hc) ha (pe_ndVals hN hv hd hcd hbase hline) hm) fun σ H Q ⟨ρ, G, s, q⟩ => vn_of s hw q
end
end VS

/-! xs.clear(); x in xs over nested data; xs[::-1] -/
namespace VS
open PySem PySem.Spec PyProof.Rows L2 Evl
/-! ### xs.clear(), xs one's own -/
def sClr (i : Nat) : FS := fun ρ => match ρ[i]? with
  | some (.ow (.lst _)) => .nx (ρ.set i (.ow (.lst [])))
  | _ => .bad
theorem st_clr {X : Cx} {B : BS} {W : WX} (i : Nat) {x : Str} {p1 p2 p3 pos : Pos} (hN : X.N[i]? = some x) (hv : Vis X.env.scope x)
    (h : PE X (.Call (.Attribute (.Name x p1) "clear" p2) [] [] p3) (tBM0 X.K "list" rClear (tVar i)))
    (hs : swapsWith (.Call (.Attribute (.Name x p1) "clear" p2) [] [] p3) none pos.line X.env = pure false := by rfl) : DS X B W (.Expr (.Call (.Attribute (.Name x p1) "clear" p2) [] [] p3) pos) (sClr i) :=
  PS.imp (ps_expr h hs) fun D σ H ⟨ρ, G, s, p⟩ => by
    unfold sClr at p
    split at p
    · rename_i l e
      obtain ⟨ad, o, h1, h2, h3, h4, vs, rfl, h5⟩ := s.ow i _ e
      exact ⟨.ref ad, h1, .inl ⟨rfl, vs, SqL.of h3⟩, ad, vs, rfl, rfl, h3, p σ _ G (s.write (o := .lst vs) e h1 h2 h4 ⟨_, rfl, IsL.nil⟩) (Ex.refl _)⟩
    · exact p.elim
/-! ### x in xs, both tuples that could be keys -/
def gInK (neg : Bool) (x y : T) : Option T :=
  match y with
  | .lst l => if (tk? x).isSome && l.all (fun z => (tk? z).isSome) then some (.bl (if neg then !(l.any fun z => tkEq z x) else l.any fun z => tkEq z x)) else none
  | _ => none
section
variable {X : Cx} {pins : List (Addr × Obj)} {σ : L2.St} {H : Hp} {s : Shared}
theorem nkey_of (I : Inv X pins σ H s) {t : T} {v : V} {u : Value} {k : NestedKey} (h : Is (km X) H t v) (r : RelV v u) (e : tk? t = some k) : NestedIs s.heap k u ∧ k.depth ≤ 8 := by
  obtain ⟨b, rfl, hb⟩ := key_is I (Ex.refl _) h e
  cases (show u = Value.ref b from r)
  exact hb
open Classical in
noncomputable def eK (s : Shared) (k : NestedKey) (y : Value) : Bool := if h : ∃ j, NestedIs s.heap j y then NestedKey.beq h.choose k else false
theorem eK_of {k j : NestedKey} {y : Value} (h : NestedIs s.heap j y) : eK s k y = NestedKey.beq j k := by
  have hh : ∃ j, NestedIs s.heap j y := ⟨j, h⟩
  unfold eK
  rw [dif_pos hh, NestedIs.inj _ _ _ hh.choose_spec h]
theorem beq_tkEq {z x : T} {j k : NestedKey} (e1 : tk? z = some j) (e2 : tk? x = some k) : NestedKey.beq j k = tkEq z x := by
  unfold tkEq
  rw [e1, e2, ← NestedKey.decide_eq]
  by_cases h : j = k
  · rw [decide_eq_true h, decide_eq_true (by rw [h])]
  · rw [decide_eq_false h, decide_eq_false (fun q => h (Option.some.inj q))]
theorem items_key (I : Inv X pins σ H s) {x : T} {k : NestedKey} (ex : tk? x = some k) : ∀ {l : List T} {vs : List V} {us : List Value}, l.all (fun z => (tk? z).isSome) = true → IsL (km X) H l vs → L2.Vals vs us →
    (∀ y ∈ us, ∃ j, NestedIs s.heap j y ∧ j.depth ≤ 8) ∧ us.any (eK s k) = l.any fun z => tkEq z x
  | [], vs, us, _, il, rv => by
    unfold IsL at il
    subst il
    cases rv
    exact ⟨fun y m => (nomatch m), rfl⟩
  | z :: l, vs, us, hl, il, rv => by
    unfold IsL at il
    obtain ⟨v, r, rfl, h2, h3⟩ := il
    rw [List.all_cons, Bool.and_eq_true] at hl
    cases rv with
    | cons r1 r2 =>
      obtain ⟨j, ej⟩ := Option.isSome_iff_exists.mp hl.1
      have hj := nkey_of I h2 r1 ej
      obtain ⟨k1, k2⟩ := items_key I ex hl.2 h3 r2
      refine ⟨fun y m => ?_, ?_⟩
      · rcases List.mem_cons.mp m with rfl | m
        · exact ⟨j, hj⟩
        · exact k1 y m
      · rw [List.any_cons, List.any_cons, k2, eK_of hj.1, beq_tkEq ej ex]
theorem o_inK (hu : X.A.units + 64 < cLine) : OpR X (compareOp .In) (rG (km X) .E (gInK false)) := by
  intro pins s σ H v u a b Q I ra rb h
  obtain ⟨x, y, G, t, ex, ix, iy, e, q⟩ := h
  cases y with
  | lst l =>
    unfold gInK at e
    simp only at e
    split at e
    · rename_i c
      have c' := Bool.and_eq_true_iff.mp c
      obtain rfl := Option.some.inj e
      obtain ⟨k, ek⟩ := Option.isSome_iff_exists.mp c'.1
      obtain ⟨p, vs, rfl, h1, h2⟩ := iy.lst ex
      cases rb
      obtain ⟨its, r, pl, hz⟩ := I.list (SqL.of h1)
      have hk := nkey_of I (ix.is ex) ra ek
      obtain ⟨k1, k2⟩ := items_key I ek c'.2 (IsL.mono ex _ _ h2) r
      refine SeqAt.in_listAt (eK s k) pl.isList (fun w hw => ?_) ⟨.bl _, H, I, rfl, ?_⟩
      · obtain ⟨j, hj, dj⟩ := k1 w (by simpa using hw)
        rw [eK_of hj]
        exact eqAt_key j k X.A.in1 s w a hj hk.1 (by show X.A.units + 1 + _ < _; have := hk.2; omega)
      · rw [show its.toArray.any (eK s k) = its.any (eK s k) by simp, k2]
        exact qE q ex Is.blI
    · cases e
  | _ => cases e
theorem o_ninK (hu : X.A.units + 64 < cLine) : OpR X (compareOp .NotIn) (rG (km X) .E (gInK true)) := by
  intro pins s σ H v u a b Q I ra rb h
  obtain ⟨x, y, G, t, ex, ix, iy, e, q⟩ := h
  cases y with
  | lst l =>
    unfold gInK at e
    simp only at e
    split at e
    · rename_i c
      have c' := Bool.and_eq_true_iff.mp c
      obtain rfl := Option.some.inj e
      obtain ⟨k, ek⟩ := Option.isSome_iff_exists.mp c'.1
      obtain ⟨p, vs, rfl, h1, h2⟩ := iy.lst ex
      cases rb
      obtain ⟨its, r, pl, hz⟩ := I.list (SqL.of h1)
      have hk := nkey_of I (ix.is ex) ra ek
      obtain ⟨k1, k2⟩ := items_key I ek c'.2 (IsL.mono ex _ _ h2) r
      refine SeqAt.notIn_listAt (eK s k) pl.isList (fun w hw => ?_) ⟨.bl _, H, I, rfl, ?_⟩
      · obtain ⟨j, hj, dj⟩ := k1 w (by simpa using hw)
        rw [eK_of hj]
        exact eqAt_key j k X.A.in1 s w a hj hk.1 (by show X.A.units + 1 + _ < _; have := hk.2; omega)
      · rw [show its.toArray.any (eK s k) = its.any (eK s k) by simp, k2]
        exact qE q ex Is.blI
    · cases e
  | _ => cases e
/-! ### xs[::-1] -/
def gRev : T → Option T
  | .lst l => some (.lst l.reverse)
  | _ => none
theorem IsL.rev {C : KM} {H : Hp} {l : List T} {vs : List V} (h : IsL C H l vs) : IsL C H l.reverse vs.reverse := by
  induction l generalizing vs with
  | nil => unfold IsL at h; subst h; exact IsL.nil
  | cons a l ih =>
    unfold IsL at h
    obtain ⟨v, r, rfl, h2, h3⟩ := h
    rw [List.reverse_cons, List.reverse_cons]
    exact (ih h3).app (IsL.one h2)
theorem d_rev {B : BS} {W : WX} {e : Expr} {fa : FE} {k : Nat} {p1 p2 p3 pos : Pos} (he : DE X B W .S e fa) : DE X B W .N (.Subscript e (.Slice none none (some (.UnaryOp .USub (.Constant (.int 1) k p1) p2)) p3) pos) (eU gRev fa) :=
  PE.imp (pe_revL he) fun σ H Q ⟨ρ, G, s, q⟩ => bindS s q fun x v H1 G1 g s1 i p1 => by
    obtain ⟨t, e, q1⟩ := p1.of
    cases x with
    | lst l =>
      obtain rfl := Option.some.inj e
      obtain ⟨a, vs, rfl, h1, h2⟩ := i.lst s1.exGH
      exact ⟨a, vs, rfl, SqL.of h1, fun p hp => q1 _ _ G1 (Gr.own s1.exGH hp) ⟨p, _, rfl, hp, upd_same, ex_none s1.exGH hp, _, rfl, IsL.rev h2⟩⟩
    | _ => cases e
end
end VS

/-! [e for x in xs for y in ys] -/
namespace VS
open PySem PySem.Spec PyProof.Rows L2 Evl
theorem setAll_old : ∀ {is : List Nat} {ts : List T} {ρ : Ev'} {k : Nat} {x : Sl}, (setAll ρ is ts)[k]? = some x → (∀ t, x ≠ .sh t) → ts.length = is.length → ρ[k]? = some x ∧ k ∉ is
  | [], ts, ρ, k, x, h, _, hl => by
    cases ts with
    | nil => exact ⟨h, fun z => nomatch z⟩
    | cons _ _ => cases hl
  | i :: is, [], ρ, k, x, h, hx, hl => by cases hl
  | i :: is, t :: ts, ρ, k, x, h, hx, hl => by
    obtain ⟨h1, h2⟩ := setAll_old (is := is) (ts := ts) (ρ := ρ.set i (.sh t)) h hx (Nat.succ.inj hl)
    rcases set_get h1 with ⟨_, z⟩ | ⟨n, z⟩
    · exact (hx _ z).elim
    · exact ⟨z, fun m => by
        rcases List.mem_cons.mp m with m | m
        · exact n m
        · exact h2 m⟩
theorem setT_old {g : Tg} {t : T} {ρ ρ1 : Ev'} {k : Nat} {x : Sl} (e : setT g t ρ = some ρ1) (h : ρ1[k]? = some x) (hx : ∀ t, x ≠ .sh t) : ρ[k]? = some x ∧ k ∉ tgs g := by
  cases g with
  | nm i =>
    cases e
    rcases set_get h with ⟨_, z⟩ | ⟨n, z⟩
    · exact (hx _ z).elim
    · exact ⟨z, fun m => n (List.mem_singleton.mp m)⟩
  | tp is =>
    cases t with
    | tup l =>
      have e' : (if l.length = is.length then some (setAll ρ is l) else none) = some ρ1 := e
      split at e'
      · rename_i hl
        cases e'
        exact setAll_old h hx hl
      · cases e'
    | _ => cases e
section
variable {C : KM} {B : BS} {σ : L2.St}
/-- the heap without D: nothing of the frame leans on it -/
theorem SR.unD {H G : Hp} {ρ : Ev'} {D : Addr} (s : SR C B σ H ρ G) (hB : B.1 D = none) (hG : G D = none) (no : ∀ (k : Nat) (t : T), ρ[k]? = some (.ow t) → σ[k]? ≠ some (some (.ref D)))
    (dp : ∀ (k : Nat) (e : VS.D) (v : V) (F : List Addr), ρ[k]? = some (.dp e) → σ[k]? = some (some v) → Dv C B.w H G e v F → D ∉ F) : SR C B σ (mask H [D]) ρ G := by
  have keep : ∀ {x : Addr} {o : HO}, x ≠ D → H x = some o → mask H [D] x = some o := fun {x o} n h => by
    rw [mask_out (fun m => n (List.mem_singleton.mp m))]
    exact h
  obtain ⟨Fp, h1, h2, h3, h4⟩ := s.dp
  refine ⟨⟨fun x o z => keep (fun q => by rw [q, hB] at z; cases z) (s.gr.eh x o z), s.gr.eg, fun x o z => keep (fun q => by rw [q, hG] at z; cases z) (s.gr.gh x o z), s.gr.sep⟩, s.sh, fun k t z => ?_, s.ds, s.len, s.xn, Fp, fun k c z => ?_, h2, h3, h4⟩
  · obtain ⟨a, o, k1, k2, k3, k4, k5⟩ := s.ow k t z
    exact ⟨a, o, k1, k2, keep (fun q => no k t z (by rw [k1, q])) k3, k4, k5⟩
  · obtain ⟨v, k1, k2, k3, k4⟩ := h1 k c z
    have nd := dp k c v _ z k1 k2
    exact ⟨v, k1, k2.mono (Ex.refl _) _ _ _ (fun x m o q => keep (fun w => nd (by rw [← w]; exact m)) q), k3, k4⟩
theorem upd_mask {H : Hp} {D : Addr} {o : HO} (h : H D = some o) : upd (mask H [D]) D o = H := by
  funext x
  by_cases e : x = D
  · rw [e, upd_same, h]
  · rw [upd_ne e, mask_out (fun m => e (List.mem_singleton.mp m))]
theorem comp_gen2 {H1 G1 : Hp} {ρ : Ev'} {J : It} {l : List T} {g : Tg} {fc fe : FE} {vs : List Nat} {D : Addr} {o0 : HO} {Qd : Hp → Prop} {STEP : L2.St → Hp → (Hp → Prop) → Prop} (A : Hp → List T → HO → Prop) (hA : ∀ G G' ts o, Ex G G' → A G ts o → A G' ts o)
    (hw : ∀ i ∈ tgs g, i ∈ vs) (wk : Wk C J G1 l) (s1 : SR C B σ H1 ρ G1) (hD : H1 D = none) (h0 : A G1 [] o0) {ts : List T} (ec : compF g fc fe l (wipeE ρ vs) = .ok ts) (hlen : ts.length ≤ 99999)
    (hstep : ∀ σ3 H4 ρ1 G4 t tacc acc Nx, SR C B σ3 H4 ρ1 G4 → (∀ (k : Nat) (t : T), ρ1[k]? = some (.ow t) → σ3[k]? ≠ some (some (.ref D))) → (∀ (k : Nat) (e : VS.D) (v : V) (F : List Addr), ρ1[k]? = some (.dp e) → σ3[k]? = some (some v) → Dv C B.w H4 G4 e v F → D ∉ F) → G4 D = none → B.1 D = none → fe ρ1 = .ok t → H4 D = some acc → A G4 tacc acc → tacc.length < 99999 → (∃ r, tacc ++ (t :: r) = ts) →
      (∀ H5 G5 acc', Gr H4 G4 H5 G5 → H5 D = some acc → A G5 (tacc ++ [t]) acc' → Nx (upd H5 D acc')) → STEP σ3 H4 Nx)
    (hfin : ∀ H' G' acc, Gr H1 G1 H' G' → H' D = some acc → G' D = none → A G' ts acc → Qd H') :
    ∃ W : Nat → Nat → Hp → Prop, (∃ m, W 0 m (upd H1 D o0)) ∧ ∀ i m H, W i m H → (J.stop i H ∧ Qd H) ∨ (J.go i H ∧ ∃ Nx : Hp → Prop, (∀ H', Nx H' → ∃ m', m' < m ∧ W (i + 1) m' H') ∧
      ∀ x H', J.yld i H x H' → tG C.K g x (L2.wipe σ vs) H' fun σ2 H2 => L2.wipe σ2 vs = L2.wipe σ vs ∧ tMT C B W0 fc σ2 H2 fun b H3 => if b = true then STEP σ2 H3 Nx else Nx H3) := by
  have sw := s1.wipe vs
  have hDB : B.1 D = none := fresh_back s1.gr.eh hD
  have hDG : G1 D = none := ex_none s1.exGH hD
  have notOwn : ∀ (i : Nat) (t : T), (wipeE ρ vs)[i]? = some (.ow t) → (L2.wipe σ vs)[i]? ≠ some (some (.ref D)) := fun i t e ea => by
    obtain ⟨a, o, q1, _, q3, _⟩ := sw.ow i t e
    rw [q1] at ea
    cases ea
    rw [hD] at q3
    cases q3
  refine ⟨fun i m H' => m = l.length - i ∧ i ≤ l.length ∧ ∃ G' acc tacc rest, SR C B (L2.wipe σ vs) H' (wipeE ρ vs) G' ∧ Gr H1 G1 H' G' ∧ G' D = none ∧ H' D = some acc ∧ A G' tacc acc ∧ compF g fc fe (l.drop i) (wipeE ρ vs) = .ok rest ∧ tacc ++ rest = ts,
    ⟨_, rfl, Nat.zero_le _, G1, o0, [], ts, sw.beside hDB hDG notOwn (sw.dpFree (Gr.refl sw.exGH) hD), Gr.own s1.exGH hD, hDG, upd_same, h0, by rw [List.drop_zero]; exact ec, rfl⟩, ?_⟩
  rintro i m H' ⟨rfl, hi, G', acc, tacc, rest, sr, gr, gD, hA', isA, er, et⟩
  by_cases hlt : i < l.length
  · rw [List.drop_eq_getElem_cons hlt] at er
    unfold compF at er
    refine .inr ⟨wk.go i H' (gr.eg.trans sr.exGH) hlt, fun H2 => i + 1 ≤ l.length ∧ ∃ G' acc tacc rest, SR C B (L2.wipe σ vs) H2 (wipeE ρ vs) G' ∧ Gr H1 G1 H2 G' ∧ G' D = none ∧ H2 D = some acc ∧ A G' tacc acc ∧ compF g fc fe (l.drop (i + 1)) (wipeE ρ vs) = .ok rest ∧ tacc ++ rest = ts,
      fun H2 ⟨h1, h2⟩ => ⟨l.length - (i + 1), by omega, rfl, h1, h2⟩, fun x H2 y => ?_⟩
    obtain ⟨G2, g2, ix⟩ := wk.yld i H' G' x H2 l[i] gr.eg sr.exGH (List.getElem?_eq_getElem hlt) y
    have s2 := sr.ext g2
    have gD2 : G2 D = none := g2.sep _ _ gD hA'
    have hA2 := g2.eh _ _ hA'
    cases est : setT g l[i] (wipeE ρ vs) with
    | none =>
      simp only [est] at er
      cases er
    | some ρ1 =>
      simp only [est] at er
      have base : tG C.K g x (L2.wipe σ vs) H2 (fun σ3 H3 => H3 = H2 ∧ SR C B σ3 H3 ρ1 G2) := tg_of (C := C) s2 ix est fun σ3 s3 => ⟨rfl, s3⟩
      refine tg_imp (fun σ3 H3 ⟨⟨kl, kj⟩, eH, s3⟩ => ?_) (tg_keep base)
      subst eH
      refine ⟨(wipe_same (σ := L2.wipe σ vs) kl.symm fun j hj => kj j fun z => hj (hw j z)).trans (wipe_same (wipe_length σ vs).symm fun j hj => by rw [wipe_get, if_neg hj]), ρ1, G2, s3, ?_⟩
      cases efc : fc ρ1 with
      | ok t =>
        simp only [efc] at er
        cases t with
        | bl b =>
          intro H4 G4 g4
          have s4 := s3.ext g4
          have gD4 : G4 D = none := g4.sep _ _ gD2 hA2
          have hA4 := g4.eh _ _ hA2
          have sr4 := sr.ext (g2.trans g4)
          have gg4 := (gr.trans g2).trans g4
          have no3 : ∀ (k : Nat) (t : T), ρ1[k]? = some (.ow t) → σ3[k]? ≠ some (some (.ref D)) := fun k t e ea => by
            obtain ⟨e1, n1⟩ := setT_old est e (fun _ z => by cases z)
            rw [kj k n1] at ea
            exact notOwn k t e1 ea
          have dp3 : ∀ (k : Nat) (e : VS.D) (v : V) (F : List Addr), ρ1[k]? = some (.dp e) → σ3[k]? = some (some v) → Dv C B.w H4 G4 e v F → D ∉ F := fun k e v F e0 ea hd => by
            obtain ⟨e1, n1⟩ := setT_old est e0 (fun _ z => by cases z)
            rw [kj k n1] at ea
            exact sw.dpFree gg4 hD k e v F e1 ea hd
          cases b with
          | true =>
            cases efe : fe ρ1 with
            | ok t =>
              simp only [efe] at er
              cases ec2 : compF g fc fe (l.drop (i + 1)) (wipeE ρ vs) with
              | ok r2 =>
                rw [ec2] at er
                have er' : (Res.ok (t :: r2) : Res (List T)) = .ok rest := er
                cases er'
                have la : tacc.length + (r2.length + 1) = ts.length := by rw [← et, List.length_append, List.length_cons]
                refine iteT (hstep σ3 H4 ρ1 G4 t tacc acc _ s4 no3 dp3 gD4 hDB efe hA4 (hA _ _ _ _ (g2.eg.trans g4.eg) isA) (by omega) ⟨r2, et⟩ fun H5 G5 acc' g5 hA5 isA5 => ?_)
                have gD5 : G5 D = none := g5.sep _ _ gD4 hA4
                have sr5 := sr4.ext g5
                have gg := ((gr.trans g2).trans g4).trans g5
                exact ⟨hlt, G5, acc', tacc ++ [t], r2, sr5.beside hDB gD5 notOwn (sw.dpFree gg hD), ⟨Ex.mut gg.eh hD, gg.eg, Ex.mut gg.gh gD5, gg.sep⟩, gD5, upd_same, isA5, rfl, by rw [List.append_assoc]; exact et⟩
              | ex x q => rw [ec2] at er; cases er
              | bad => rw [ec2] at er; cases er
            | ex x q => simp only [efe] at er; cases er
            | bad => simp only [efe] at er; cases er
          | false =>
            exact iteF ⟨hlt, G4, acc, tacc, rest, sr4, (gr.trans g2).trans g4, gD4, hA4, hA _ _ _ _ (g2.eg.trans g4.eg) isA, er, et⟩
        | _ => cases er
      | ex x q => simp only [efc] at er; cases er
      | bad => simp only [efc] at er; cases er
  · have e : i = l.length := by omega
    subst e
    rw [List.drop_length] at er
    have er' : (Res.ok [] : Res (List T)) = .ok rest := er
    cases er'
    rw [List.append_nil] at et
    subst et
    exact .inl ⟨wk.stop H' (gr.eg.trans sr.exGH), hfin H' G' acc gr hA' gD isA⟩
def flatL (l : List T) : List T := l.flatMap fun t => match t with | .lst x => x | _ => []
theorem flatL_app (a b : List T) : flatL (a ++ b) = flatL a ++ flatL b := List.flatMap_append
def eIn (fi1 : FI) (g1 : Tg) (vs1 : List Nat) (fe : FE) : FE := fun ρ => (fi1 ρ).bind fun l => (compF g1 (eC (.bl true)) fe l (wipeE ρ vs1)).bind fun ts => if ts.length ≤ 99999 then .ok (.lst ts) else .bad
def eComp2 (fi : FI) (g : Tg) (vs : List Nat) (fi1 : FI) (g1 : Tg) (vs1 : List Nat) (fe : FE) : FE := fun ρ => (fi ρ).bind fun l => (compF g (eC (.bl true)) (eIn fi1 g1 vs1 fe) l (wipeE ρ vs)).bind fun ts => if ts.length ≤ 99999 ∧ (flatL ts).length ≤ 99999 then .ok (.lst (flatL ts)) else .bad
theorem compF_nox {g : Tg} {fc fe : FE} {ρ : Ev'} : ∀ (l : List T) (x : Str) (q : List T), compF g fc fe l ρ ≠ .ex x q := by
  intro l
  induction l with
  | nil => intro x q z; cases z
  | cons a r ih =>
    intro x q z
    unfold compF at z
    split at z
    · cases z
    · split at z
      · split at z
        · cases er : compF g fc fe r ρ with
          | ok w => rw [er] at z; cases z
          | ex x' q' => exact ih x' q' er
          | bad => rw [er] at z; cases z
        · cases z
      · exact ih x q z
      · cases z
theorem comp2_of {W : WX} {fi fi1 : FI} {g g1 : Tg} {vs vs1 : List Nat} {fe : FE} {H : Hp} {Q : VK} (hw : ∀ i ∈ tgs g, i ∈ vs) (hw1 : ∀ i ∈ tgs g1, i ∈ vs1) (h : tM C B .N W (eComp2 fi g vs fi1 g1 vs1 fe) σ H Q) :
    tLc2 (tI C B W fi) (tG C.K g) (tMT C B W0 (eC (.bl true))) (tI C B W0 fi1) (tG C.K g1) (tMT C B W0 (eC (.bl true))) (tM C B .E W0 fe) vs vs1 σ H Q := by
  obtain ⟨ρ, G, s, p⟩ := h
  refine ⟨ρ, G, s, ?_⟩
  unfold eComp2 at p
  cases ei : fi ρ with
  | bad => rw [ei] at p; exact p
  | ex x q => rw [ei] at p; exact p
  | ok l =>
    rw [ei] at p
    intro J H1 G1 g1' wk D hD
    have s1 := s.ext g1'
    have hD0 : H D = none := fresh_back g1'.eh hD
    have p1 : Post C .N W σ H G ((compF g (eC (.bl true)) (eIn fi1 g1 vs1 fe) l (wipeE ρ vs)).bind fun ts => if ts.length ≤ 99999 ∧ (flatL ts).length ≤ 99999 then .ok (.lst (flatL ts)) else .bad) Q := p
    cases ec : compF g (eC (.bl true)) (eIn fi1 g1 vs1 fe) l (wipeE ρ vs) with
    | bad => rw [ec] at p1; exact p1.elim
    | ex x q => exact (compF_nox l x q ec).elim
    | ok ts =>
      rw [ec] at p1
      have p2 : Post C .N W σ H G (if ts.length ≤ 99999 ∧ (flatL ts).length ≤ 99999 then .ok (.lst (flatL ts)) else .bad) Q := p1
      split at p2
      rotate_left
      · exact p2.elim
      rename_i hlen
      refine comp_gen2 (C := C) (B := B) (σ := σ) (o0 := .lst []) (Qd := Q (.ref D)) (STEP := fun σ2 H3 Nx => tI C B W0 fi1 σ2 H3 fun J1 H4 => ∃ W1 : Nat → Nat → Hp → Prop, (∃ m, W1 0 m H4) ∧ ∀ j k H, W1 j k H →
        (J1.stop j H ∧ Nx H) ∨ (J1.go j H ∧ ∃ Nx1 : Hp → Prop, (∀ H', Nx1 H' → ∃ k', k' < k ∧ W1 (j + 1) k' H') ∧ ∀ x H', J1.yld j H x H' → tG C.K g1 x (L2.wipe σ2 vs1) H' fun σ3 H5 => L2.wipe σ3 vs1 = L2.wipe σ2 vs1 ∧ tMT C B W0 (eC (.bl true)) σ3 H5 fun b H6 =>
          if b = true then tM C B .E W0 fe σ3 H6 fun y H7 => ∃ acc, H7 D = some (.lst acc) ∧ acc.length < sizeLine ∧ Nx1 (upd H7 D (.lst (acc ++ [y]))) else Nx1 H6)) (fun G us o => ∃ vs', o = .lst vs' ∧ IsL C G (flatL us) vs') (fun G G' us o e ⟨v, h1, h2⟩ => ⟨v, h1, IsL.mono e _ _ h2⟩) hw wk s1 hD ⟨[], rfl, IsL.nil⟩ ec hlen.1 ?_ ?_
      · intro σ3 H4 ρ1 G4 t tacc acc Nx s4 no3 dp3 gD hDB efe hA4 isA hlt ⟨r, er⟩ hNx
        unfold eIn at efe
        cases e1 : fi1 ρ1 with
        | bad => rw [e1] at efe; cases efe
        | ex x q => rw [e1] at efe; cases efe
        | ok l1 =>
          rw [e1] at efe
          have efe : ((compF g1 (eC (.bl true)) fe l1 (wipeE ρ1 vs1)).bind fun ts => if ts.length ≤ 99999 then Res.ok (T.lst ts) else .bad) = .ok t := efe
          cases ec1 : compF g1 (eC (.bl true)) fe l1 (wipeE ρ1 vs1) with
          | bad => rw [ec1] at efe; cases efe
          | ex x q => rw [ec1] at efe; cases efe
          | ok ts1 =>
            rw [ec1] at efe
            have efe : (if ts1.length ≤ 99999 then Res.ok (T.lst ts1) else .bad) = .ok t := efe
            split at efe
            rotate_left
            · cases efe
            rename_i hl1
            cases efe
            refine ⟨ρ1, G4, s4, ?_⟩
            rw [e1]
            intro J1 H5 G5 g5 wk1
            have s5 := s4.ext g5
            have gD5 : G5 D = none := g5.sep _ _ gD hA4
            have hA5 := g5.eh _ _ hA4
            have dp5 : ∀ (k : Nat) (e : VS.D) (v : V) (F : List Addr), ρ1[k]? = some (.dp e) → σ3[k]? = some (some v) → Dv C B.w H5 G5 e v F → D ∉ F := fun k e v F q1 q2 q3 => by
              obtain ⟨Fp, h1, _, _, _⟩ := s4.dp
              obtain ⟨v', k1, k2, _⟩ := h1 k e q1
              rw [q2] at k1
              cases k1
              have eF := k2.det g5.eg _ _ _ _ (fun x _ o z => g5.eh x o z) q3
              rw [← eF]
              exact dp3 k e v _ q1 q2 k2
            have sm := s5.unD hDB gD5 no3 dp5
            obtain ⟨vs0, rfl, ia⟩ := isA
            have lts : (flatL ts).length = (flatL tacc).length + (ts1.length + (flatL r).length) := by
              rw [← er, flatL_app, List.length_append]
              show (flatL tacc).length + (ts1 ++ flatL r).length = _
              rw [List.length_append]
            have lv0 : vs0.length = (flatL tacc).length := (IsL.length ia).symm
            have main := comp_gen2 (C := C) (B := B) (σ := σ3) (J := J1) (l := l1) (g := g1) (fc := eC (.bl true)) (fe := fe) (vs := vs1) (H1 := mask H5 [D]) (G1 := G5) (ρ := ρ1) (D := D) (o0 := .lst vs0) (Qd := Nx) (STEP := fun σ3 H6 Nx1 => tM C B .E W0 fe σ3 H6 fun y H7 => ∃ acc, H7 D = some (.lst acc) ∧ acc.length < sizeLine ∧ Nx1 (upd H7 D (.lst (acc ++ [y]))))
              (fun G us o => ∃ vs', o = .lst (vs0 ++ vs') ∧ IsL C G us vs') (fun G G' us o e ⟨v, h1, h2⟩ => ⟨v, h1, IsL.mono e _ _ h2⟩) hw1 wk1 sm (mask_in (List.mem_singleton.mpr rfl)) ⟨[], by rw [List.append_nil], IsL.nil⟩ ec1 hl1
              (fun σ6 H6 ρ6 G6 t6 tacc6 acc6 Nx1 s6 _ _ _ _ efe6 hA6 isA6 _ ⟨r6, er6⟩ hN6 => by
                refine ⟨ρ6, G6, s6, ?_⟩
                rw [efe6]
                intro v H7 G7 g7 iv
                obtain ⟨vs', rfl, il⟩ := isA6
                have hA7 := g7.eh _ _ hA6
                have l6 : tacc6.length + (r6.length + 1) = ts1.length := by rw [← er6, List.length_append, List.length_cons]
                refine ⟨vs0 ++ vs', hA7, sz_lt (by rw [List.length_append, lv0, ← IsL.length il]; omega), hN6 H7 G7 _ g7 hA7 ⟨vs' ++ [v], by rw [List.append_assoc], (IsL.mono g7.eg _ _ il).app (IsL.one iv)⟩⟩)
              (fun H' G' acc' g' hA' gD' isA' => by
                obtain ⟨vs', rfl, il⟩ := isA'
                have hk : ∀ x o, x ≠ D → H4 x = some o → H' x = some o := fun x o n z => g'.eh x o (by rw [mask_out (fun m => n (List.mem_singleton.mp m))]; exact g5.eh x o z)
                have gr4 : Gr H4 G4 (upd H' D (.lst vs0)) G' := by
                  refine ⟨fun x o z => ?_, g5.eg.trans g'.eg, fun x o z => ?_, fun x o z y => ?_⟩
                  · by_cases e : x = D
                    · rw [e, upd_same, ← hA4, ← z, e]
                    · rw [upd_ne e]; exact hk x o e z
                  · have e : x ≠ D := fun q => by rw [q, gD'] at z; cases z
                    rw [upd_ne e]; exact g'.gh x o z
                  · by_cases e : x = D
                    · rw [e]; exact gD'
                    · exact g'.sep x o (g5.sep x o z y) (by rw [mask_out (fun m => e (List.mem_singleton.mp m))]; exact g5.eh x o y)
                have fin := hNx (upd H' D (.lst vs0)) G' (.lst (vs0 ++ vs')) gr4 upd_same ⟨_, rfl, by
                  rw [flatL_app]
                  show IsL C G' (flatL tacc ++ (ts1 ++ [])) _
                  rw [List.append_nil]
                  exact (IsL.mono (g5.eg.trans g'.eg) _ _ ia).app il⟩
                have eq : upd (upd H' D (.lst vs0)) D (.lst (vs0 ++ vs')) = H' := by
                  funext x
                  by_cases e : x = D
                  · rw [e, upd_same, hA']
                  · rw [upd_ne e, upd_ne e]
                rw [eq] at fin
                exact fin)
            rw [upd_mask hA5] at main
            exact main
      · intro H' G' acc gr hA' gD ⟨vs', e, il⟩
        subst e
        exact p2 _ H' G' (g1'.trans gr) ⟨D, _, rfl, hD0, hA', gD, vs', rfl, il⟩
end
section
variable {X : Cx} {B : BS} {W : WX} {tg iter tg1 iter1 elt : Expr} {scope : Scope} {own : List (Str × Nat)} {vs1 : List Nat} {pos : Pos} {fi fi1 : FI} {g g1 : Tg} {fe : FE}
theorem d_lc2 (hc : X.calm = true) (hN : X.N.Nodup) (hi : DI X B W tg iter fi) (ok : BlkOk X.N X.env.scope scope own) (hv : ∀ i ∈ vs1, i ∈ own.map (·.2)) (hw : ∀ i ∈ tgs g, i ∈ own.map (·.2)) (hw1 : ∀ i ∈ tgs g1, i ∈ vs1)
    (hg : ∀ (s : Shared) (H : Hp) (C : Addr) (cl : List (Str × Addr)) (fp : List Addr), DG (X.blk s H scope (compEnvC scope cl C X.env) fp) tg g)
    (hi1 : ∀ (s : Shared) (H : Hp) (C : Addr) (cl : List (Str × Addr)) (fp : List Addr), DI (X.blk s H scope (compEnvC scope cl C X.env) fp) B W0 tg1 iter1 fi1)
    (hg1 : ∀ (s : Shared) (H : Hp) (C : Addr) (cl : List (Str × Addr)) (fp : List Addr), DG (X.blk s H scope (compEnvC scope cl C X.env) fp) tg1 g1)
    (he : ∀ (s : Shared) (H : Hp) (C : Addr) (cl : List (Str × Addr)) (fp : List Addr), DE (X.blk s H scope (compEnvC scope cl C X.env) fp) B W0 .E elt fe) (hs : ∀ x, foldedSetIterable iter X.env x = pure x := by intro _; rfl) (hs1 : ∀ env x, foldedSetIterable iter1 env x = pure x := by intro _ _; rfl) :
    DE X B W .N (.ListComp elt [⟨tg, iter, [], 0⟩, ⟨tg1, iter1, [], 0⟩] scope pos) (eComp2 fi g (own.map (·.2)) fi1 g1 vs1 fe) :=
  PE.imp (pe_lc2 (g := tG X.K g) (tt := tMT (km X) B W0 (eC (.bl true))) (wi1 := tI (km X) B W0 fi1) (g1 := tG X.K g1) (tt1 := tMT (km X) B W0 (eC (.bl true))) (te := tM (km X) B .E W0 fe) hc hN hi ok hv hg (fun _ _ _ _ _ => ts_nil) hi1 hg1 (fun _ _ _ _ _ => ts_nil) he hs hs1) fun σ H Q h => comp2_of hw hw1 h
theorem st_newLc2 {i : Nat} {y : Str} {py spos : Pos} (hc : X.calm = true) (hN : X.N.Nodup) (hy : X.N[i]? = some y) (hyl : X.env.scope.names.lookup y = some .local)
    (hsw : swapsWith (.ListComp elt [⟨tg, iter, [], 0⟩, ⟨tg1, iter1, [], 0⟩] scope pos) (some (.Name y py)) spos.line X.env = pure true) (hi : DI X B W tg iter fi) (ok : BlkOk X.N X.env.scope scope own) (hv : ∀ i ∈ vs1, i ∈ own.map (·.2)) (hw : ∀ i ∈ tgs g, i ∈ own.map (·.2)) (hw1 : ∀ i ∈ tgs g1, i ∈ vs1)
    (hg : ∀ (s : Shared) (H : Hp) (C : Addr) (cl : List (Str × Addr)) (fp : List Addr), DG (X.blk s H scope (compEnvC scope cl C X.env) fp) tg g)
    (hi1 : ∀ (s : Shared) (H : Hp) (C : Addr) (cl : List (Str × Addr)) (fp : List Addr), DI (X.blk s H scope (compEnvC scope cl C X.env) fp) B W0 tg1 iter1 fi1)
    (hg1 : ∀ (s : Shared) (H : Hp) (C : Addr) (cl : List (Str × Addr)) (fp : List Addr), DG (X.blk s H scope (compEnvC scope cl C X.env) fp) tg1 g1)
    (he : ∀ (s : Shared) (H : Hp) (C : Addr) (cl : List (Str × Addr)) (fp : List Addr), DE (X.blk s H scope (compEnvC scope cl C X.env) fp) B W0 .E elt fe) (hs : ∀ x, foldedSetIterable iter X.env x = pure x := by intro _; rfl) (hs1 : ∀ env x, foldedSetIterable iter1 env x = pure x := by intro _ _; rfl) :
    DS X B W (.Assign [.Name y py] (.ListComp elt [⟨tg, iter, [], 0⟩, ⟨tg1, iter1, [], 0⟩] scope pos) spos) (sNew i (eComp2 fi g (own.map (·.2)) fi1 g1 vs1 fe)) :=
  PS.imp (ps_setLc2 (g := tG X.K g) (tt := tMT (km X) B W0 (eC (.bl true))) (wi1 := tI (km X) B W0 fi1) (g1 := tG X.K g1) (tt1 := tMT (km X) B W0 (eC (.bl true))) (te := tM (km X) B .E W0 fe) hc hN hy hyl hsw hi ok hv hg (fun _ _ _ _ _ => ts_nil) hi1 hg1 (fun _ _ _ _ _ => ts_nil) he hs hs1) fun D σ H ⟨ρ, G, s, p⟩ => comp2_of hw hw1 (bindSt s p fun t v H1 G1 g s1 i p1 => by
    obtain ⟨a, o, rfl, h1, h2, h3, h4⟩ := i
    refine p1 _ H1 G1 (s1.set (fun u e => by cases e) (fun u e => ?_) (fun y p e => by cases e) (fun d e => by cases e) (fun t b _ eb => by cases eb; exact s.dpFree g h1)) (Ex.refl _)
    cases e
    refine ⟨a, o, rfl, fresh_back s.gr.eh h1, h2, h3, h4, fun j w ej ea => ?_⟩
    obtain ⟨b, ob, q1, _, q3, _⟩ := s.ow j w ej
    rw [q1] at ea
    cases ea
    rw [h1] at q3
    cases q3)
end
end VS

namespace K08
open PySem PySem.Spec PyProof.Rows L2 Evl VS
abbrev P0 : Program := PySem.Challenge.pw_liveswap_k08_whole_looked
def topS (i : Nat) : Stmt := P0.main.body.getD i (.Pass ⟨0, 0, 0, 0⟩)
def tbl_PARTS : List (Str × T) := [("put", (.tup [(.str "box"), (.str "number")])), ("more", (.tup [(.str "box")])), ("copy", (.tup [(.str "box"), (.str "box")])), ("tell", (.tup [(.str "box")])), ("go", (.tup [(.str "row")])), ("ask", (.tup [(.str "box"), (.str "row")])), ("stop", (.tup []))]
def miss_PARTS : List Str := []
def is0_law_word : Str → Option Bool := fun x => if x = "BadProgram" then some true else if x = "BadPlaces" then some false else none
def is1_law_word : Str → Option Bool := fun x => if x = "BadProgram" then some false else if x = "BadPlaces" then some true else none
def is2_law_word : Str → Option Bool := fun x => if x = "BadProgram" then some false else if x = "BadPlaces" then some false else none
def is3_law_word : Str → Option Bool := fun x => if x = "BadProgram" then some true else if x = "BadPlaces" then some true else none
def tr4_law_word : Str → Option Bool := fun x => if x = "BadProgram" then some true else if x = "BadPlaces" then some true else none
structure Tx (w : World) (K : PySem.W.Frag) (mg : Str → Option Value) : Prop where
  n_ValueError : mg "ValueError" = none
  n_all : mg "all" = none
  n_any : mg "any" = none
  n_bool : mg "bool" = none
  n_enumerate : mg "enumerate" = none
  n_int : mg "int" = none
  n_isinstance : mg "isinstance" = none
  n_len : mg "len" = none
  n_list : mg "list" = none
  n_range : mg "range" = none
  n_str : mg "str" = none
  n_tuple : mg "tuple" = none
  n_type : mg "type" = none
  i_MOST_BOXES : ∃ t, mg "MOST_BOXES" = some (.int 3 t)
  i_HIGHEST_MOST : ∃ t, mg "HIGHEST_MOST" = some (.int 4 t)
  i_MOST_ROWS : ∃ t, mg "MOST_ROWS" = some (.int 20 t)
  i_MOST_PLACES : ∃ t, mg "MOST_PLACES" = some (.int 20 t)
  g_PARTS : GD ⟨K, mg⟩ w "PARTS" tbl_PARTS miss_PARTS
  r_BadPlaces : XC K mg "BadPlaces"
  r_BadProgram : XC K mg "BadProgram"
  x_SwapError : CL mg "SwapError"
  x_BadProgram : CL mg "BadProgram"
  x_BadState : CL mg "BadState"
  x_BadPlaces : CL mg "BadPlaces"
  x_BadCount : CL mg "BadCount"
  x_Busy : CL mg "Busy"
  x_Over : CL mg "Over"
  x_Unsafe : CL mg "Unsafe"
  c_is0_law_word : ∀ Dc, mg "BadProgram" = some (.ref Dc) → ∀ y b D, is0_law_word y = some b → mg y = some (.ref D) → ExcC K D ∧ PySem.W.kitOne K (.ref D) (.ref Dc) = some b
  c_is1_law_word : ∀ Dc, mg "BadPlaces" = some (.ref Dc) → ∀ y b D, is1_law_word y = some b → mg y = some (.ref D) → ExcC K D ∧ PySem.W.kitOne K (.ref D) (.ref Dc) = some b
  c_is2_law_word : ∀ Ds : List Addr, Paired (fun x D => mg x = some (.ref D)) ["BadCount", "BadState", "Busy", "Over", "Unsafe"] Ds → ∀ y b D, is2_law_word y = some b → mg y = some (.ref D) → ExcC K D ∧ PySem.W.kitAny K (.ref D) (Ds.map Value.ref) = some b
  c_is3_law_word : ∀ y b D, is3_law_word y = some b → mg y = some (.ref D) → ExcC K D ∧ PySem.W.kitOne K (.ref D) (.type "ValueError") = some b
  e_tr4_law_word : ∀ Dc, mg "SwapError" = some (.ref Dc) → ∀ y b D, tr4_law_word y = some b → mg y = some (.ref D) → PySem.W.exmOne K (.ref D) (.ref Dc) = some b
section
variable {w : World} {K : PySem.W.Frag} {mg : Str → Option Value} {base : Heap}
/-! ### law_begins -/
abbrev s_law_begins : Stmt := topS 47
def b_law_begins : FS := (sSeq (sSet 1 (eLst (aCons (eTup aNil) aNil)))
  (sSeq (sFor (iRg (eB gIx (eW 0) (eC (.int 0)))) (.nm 2) (sSeq (sNew 3 (eLst aNil))
  (sSeq (sFor (iIt (eV 1)) (.nm 4) (sFor (iRg (eB gAdd (eB gIx (eW 0) (eC (.int 1))) (eC (.int 1)))) (.nm 5) (sApp 3 (eB gAdd (eW 4) (eTup (aCons (eV 5) aNil))))))
  (sFrz 3 (sSet 1 (eV 3))))))
  (sRet (eV 1))))
def m_law_begins : Mir := fDef 6 b_law_begins
theorem sc_law_begins : FnScope ["_law_program_here", "_law_found", "_law_box", "_law_more", "_law_begin", "_law_number"] ["_law_program_here"] (defScope s_law_begins) := ⟨rfl, rfl, rfl, by decide +kernel, rfl, by decide +kernel, by decide +kernel⟩
theorem ok_law_begins (T : Tx w K mg) (A : At K mg "_law_begins" s_law_begins ["_law_program_here"]) : Ok P0 w K mg base 1 "_law_begins" 1 m_law_begins :=
  okO (N := ["_law_program_here", "_law_found", "_law_box", "_law_more", "_law_begin", "_law_number"]) (fs := b_law_begins) A sc_law_begins rfl rfl fun f cdv A outer s H G E hr =>
    (ss_cons (st_set (i := 1) sc_law_begins.nd rfl (by first | exact Or.inl rfl | exact Or.inr rfl) (d_NE (d_lst (a_consE (d_tup a_nil) a_nil))))
    (ss_cons (st_for (passes_of rfl) rfl (i_rg (by rfl) T.n_range (d_ix (d_w 0) (d_S d_int))) (pg_name (i := 2) sc_law_begins.nd rfl (by first | exact Or.inl rfl | exact Or.inr rfl)) (ss_cons (st_new (i := 3) sc_law_begins.nd rfl (by first | exact Or.inl rfl | exact Or.inr rfl) (d_lst a_nil))
    (ss_cons (st_for (passes_of rfl) rfl (i_seq (d_v 1)) (pg_name (i := 4) sc_law_begins.nd rfl (by first | exact Or.inl rfl | exact Or.inr rfl)) (ss_one (st_for (passes_of rfl) rfl (i_rg (by rfl) T.n_range (d_op o_add (d_S (d_ix (d_w 0) (d_S d_int))) (d_S d_int))) (pg_name (i := 5) sc_law_begins.nd rfl (by first | exact Or.inl rfl | exact Or.inr rfl)) (ss_one (st_app 3 rfl (by first | exact Or.inl rfl | exact Or.inr (Or.inl rfl)) (d_op o_add (d_w 4) (d_S (d_tup (a_consE (d_v 5) a_nil)))) (pe_bm PySem.F.plainAttrs_list PySem.F.slot_list_append PySem.F.type_list_append mt_append (pv 3) (pa_cons (d_op o_add (d_w 4) (d_S (d_tup (a_consE (d_v 5) a_nil)))) pa_nil)))))))
    (ss_one (st_frz 3 (st_set (i := 1) sc_law_begins.nd rfl (by first | exact Or.inl rfl | exact Or.inr rfl) (d_v 3)))))))
    (ss_one (st_ret (d_v 1)))))
/-! ### law_cell_at -/
abbrev s_law_cell_at : Stmt := topS 37
def b_law_cell_at : FS := (sSeq (sIf (eB gLt (eW 1) (eU gLen (eW 0))) (sRet (eB gIx (eW 0) (eW 1))) sNx)
  (sRet (eC (.int 0))))
def m_law_cell_at : Mir := fDef 2 b_law_cell_at
theorem sc_law_cell_at : FnScope ["_law_script", "_law_k"] ["_law_script", "_law_k"] (defScope s_law_cell_at) := ⟨rfl, rfl, rfl, by decide +kernel, rfl, by decide +kernel, by decide +kernel⟩
theorem ok_law_cell_at (T : Tx w K mg) (A : At K mg "_law_cell_at" s_law_cell_at ["_law_script", "_law_k"]) : Ok P0 w K mg base 1 "_law_cell_at" 2 m_law_cell_at :=
  okO (N := ["_law_script", "_law_k"]) (fs := b_law_cell_at) A sc_law_cell_at rfl rfl fun f cdv A outer s H G E hr =>
    (ss_cons (st_if (t_cmp o_lt (d_w 1) (d_S (d_cB c_len (by rfl) T.n_len PySem.boot_len (d_w 0))) (nomark _)) (ss_one (st_ret (d_ix (d_w 0) (d_w 1)))) ss_nil)
    (ss_one (st_ret d_int)))
/-! ### law_turned -/
abbrev s_law_turned : Stmt := topS 46
def b_law_turned : FS := (sSeq (sNew 2 (eLst aNil))
  (sSeq (sFor (iIt (eV 0)) (.nm 3) (sSeq (sSet 4 (eB gIx (eW 3) (eC (.int 1))))
  (sSeq (sIf (eB gEq (eB gIx (eW 3) (eC (.int 0))) (eC (.str "by"))) (sSet 4 (eB gIx (eB gIx (eW 3) (eC (.int 2))) (eB gIx (eW 1) (eB gIx (eW 3) (eC (.int 1)))))) sNx)
  (sSeq (sIf (eB gIsN' (eW 4) (eC .non)) (sRet (eC .non)) sNx)
  (sApp 2 (eV 4))))))
  (sRet (eU gTuple (eW 2)))))
def m_law_turned : Mir := fDef 5 b_law_turned
theorem sc_law_turned : FnScope ["_law_rules_here", "_law_numbers_here", "_law_found", "_law_rule_here", "_law_number"] ["_law_rules_here", "_law_numbers_here"] (defScope s_law_turned) := ⟨rfl, rfl, rfl, by decide +kernel, rfl, by decide +kernel, by decide +kernel⟩
theorem ok_law_turned (T : Tx w K mg) (A : At K mg "_law_turned" s_law_turned ["_law_rules_here", "_law_numbers_here"]) : Ok P0 w K mg base 1 "_law_turned" 2 m_law_turned :=
  okO (N := ["_law_rules_here", "_law_numbers_here", "_law_found", "_law_rule_here", "_law_number"]) (fs := b_law_turned) A sc_law_turned rfl rfl fun f cdv A outer s H G E hr =>
    (ss_cons (st_new (i := 2) sc_law_turned.nd rfl (by first | exact Or.inl rfl | exact Or.inr rfl) (d_lst a_nil))
    (ss_cons (st_for (passes_of rfl) rfl (i_seq (d_v 0)) (pg_name (i := 3) sc_law_turned.nd rfl (by first | exact Or.inl rfl | exact Or.inr rfl)) (ss_cons (st_set (i := 4) sc_law_turned.nd rfl (by first | exact Or.inl rfl | exact Or.inr rfl) (d_ix (d_w 3) (d_S d_int)))
    (ss_cons (st_if (t_cmp (o_eq hr.units) (d_S (d_ix (d_w 3) (d_S d_int))) (d_S d_str) (nomark _)) (ss_one (st_set (i := 4) sc_law_turned.nd rfl (by first | exact Or.inl rfl | exact Or.inr rfl) (d_ix (d_S (d_ix (d_w 3) (d_S d_int))) (d_S (d_ix (d_w 1) (d_S (d_ix (d_w 3) (d_S d_int)))))))) ss_nil)
    (ss_cons (st_if (t_cmp o_isN (d_w 4) (d_S d_non) (nomark _)) (ss_one (st_ret d_non)) ss_nil)
    (ss_one (st_app 2 rfl (by first | exact Or.inl rfl | exact Or.inr (Or.inl rfl)) (d_v 4) (pe_bm PySem.F.plainAttrs_list PySem.F.slot_list_append PySem.F.type_list_append mt_append (pv 2) (pa_cons (d_v 4) pa_nil))))))))
    (ss_one (st_ret (d_cT c_tuple (by rfl) T.n_tuple (by decide +kernel) (d_w 2))))))
/-! ### law_gone_back -/
abbrev s_law_gone_back : Stmt := topS 50
def b_law_gone_back : FS := (sFor (iIt (eU gRev (eW 1))) (.nm 4) (sSeq (sIf (eB (gDIn false) (eB gIx (eW 4) (eC (.int 0))) (eW 0)) (sSet 2 (eB gIx (eLst (aCons (eC (.str "comes")) (aCons (eC (.str "stuck")) aNil))) (eU gInt (eB gIsN' (eCall 2 m_law_turned (aCons (eB gDGet (eW 0) (eB gIx (eW 4) (eC (.int 0)))) (aCons (eB gIx (eW 4) (eC (.int 1))) aNil))) (eC .non))))) sNx)
  (sDtPut 3 (eV 4) (eV 2))))
def m_law_gone_back : MirB := fDefB 3 5 b_law_gone_back
theorem sc_law_gone_back : FnScope ["_law_rules_here", "_law_path", "_law_word_here", "_law_known", "_law_state"] ["_law_rules_here", "_law_path", "_law_word_here", "_law_known"] (defScope s_law_gone_back) := ⟨rfl, rfl, rfl, by decide +kernel, rfl, by decide +kernel, by decide +kernel⟩
theorem ok_law_gone_back (T : Tx w K mg) (A : At K mg "_law_gone_back" s_law_gone_back ["_law_rules_here", "_law_path", "_law_word_here", "_law_known"]) (O_law_turned : Ok P0 w K mg base 1 "_law_turned" 2 m_law_turned) : OkB P0 w K mg base 2 "_law_gone_back" 4 3 m_law_gone_back :=
  okOB (N := ["_law_rules_here", "_law_path", "_law_word_here", "_law_known", "_law_state"]) (fs := b_law_gone_back) A sc_law_gone_back rfl (by decide) rfl fun f cdv A outer s H Hm G a E hr =>
    (ss_one (st_for (passes_of rfl) rfl (i_seq (d_NE (d_rev (d_w 1)))) (pg_name (i := 4) sc_law_gone_back.nd rfl (by first | exact Or.inl rfl | exact Or.inr rfl)) (ss_cons (st_if (t_cmp (o_dIn hr.units) (d_S (d_ix (d_w 4) (d_S d_int))) (d_w 0) (by rfl)) (ss_one (st_set (i := 2) sc_law_gone_back.nd rfl (by first | exact Or.inl rfl | exact Or.inr rfl) (d_ix (d_NS (d_lst (a_consE d_str (a_consE d_str a_nil)))) (d_S (d_cT c_int (by rfl) T.n_int (by decide +kernel) (d_S (d_cmp o_isN (d_S (d_callO O_law_turned (hr.mono (by decide)) (by rfl) (tk_of (takes_of rfl rfl rfl rfl)) (a_consE (d_dget (hu_of hr) (d_w 0) (d_S (d_ix (d_w 4) (d_S d_int)))) (a_consE (d_ix (d_w 4) (d_S d_int)) a_nil)))) (d_S d_non) (nomark _)))))))) ss_nil)
    (ss_one (st_ndPut (i := 3) hr.units (d_v 2) (d_v 4) rfl (by first | exact Or.inl rfl | exact Or.inr (Or.inl rfl) | exact Or.inr (Or.inr rfl)))))))
/-! ### law_put -/
abbrev s_law_put : Stmt := topS 44
def b_law_put : FS := (sSeq (sNew 3 (eU gList (eW 0)))
  (sSeq (sPut 3 (eV 1) (eV 2))
  (sRet (eU gTuple (eW 3)))))
def m_law_put : Mir := fDef 4 b_law_put
theorem sc_law_put : FnScope ["_law_numbers_here", "_law_box", "_law_number", "_law_row_here"] ["_law_numbers_here", "_law_box", "_law_number"] (defScope s_law_put) := ⟨rfl, rfl, rfl, by decide +kernel, rfl, by decide +kernel, by decide +kernel⟩
theorem ok_law_put (T : Tx w K mg) (A : At K mg "_law_put" s_law_put ["_law_numbers_here", "_law_box", "_law_number"]) : Ok P0 w K mg base 1 "_law_put" 3 m_law_put :=
  okO (N := ["_law_numbers_here", "_law_box", "_law_number", "_law_row_here"]) (fs := b_law_put) A sc_law_put rfl rfl fun f cdv A outer s H G E hr =>
    (ss_cons (st_new (i := 3) sc_law_put.nd rfl (by first | exact Or.inl rfl | exact Or.inr rfl) (d_cT c_list (by rfl) T.n_list (by decide +kernel) (d_w 0)))
    (ss_cons (st_put 3 rfl (by first | exact Or.inl rfl | exact Or.inr (Or.inl rfl)) (by decide) (by decide) (d_v 2) (d_v 1) (pg_sub (pv 3) (d_v 1) set_list))
    (ss_one (st_ret (d_cT c_tuple (by rfl) T.n_tuple (by decide +kernel) (d_w 3))))))
/-! ### law_step -/
abbrev s_law_step : Stmt := topS 45
def b_law_step : FS := (sSeq (sSet 2 (eB gIx (eW 1) (eC (.int 0))))
  (sSeq (sSet 3 (eB gIx (eW 1) (eC (.int 1))))
  (sSeq (sSet 4 (eB gIx (eB gIx (eW 0) (eC (.int 2))) (eW 2)))
  (sSeq (sIf (eB gEq (eB gIx (eW 4) (eC (.int 0))) (eC (.str "stop"))) (sRet (eTup (aCons (eC .non) (aCons (eC .non) aNil)))) sNx)
  (sSeq (sIf (eB gEq (eB gIx (eW 4) (eC (.int 0))) (eC (.str "tell"))) (sRet (eTup (aCons (eTup (aCons (eB gAdd (eW 2) (eC (.int 1))) (aCons (eV 3) aNil))) (aCons (eB gIx (eW 3) (eB gIx (eW 4) (eC (.int 1)))) aNil)))) sNx)
  (sSeq (sIf (eOr (eB gEq (eB gIx (eW 4) (eC (.int 0))) (eC (.str "go"))) (eAnd (eB gEq (eB gIx (eW 4) (eC (.int 0))) (eC (.str "ask"))) (eB gEq (eB gIx (eW 3) (eB gIx (eW 4) (eC (.int 1)))) (eC (.int 0))))) (sRet (eTup (aCons (eTup (aCons (eB gIx (eW 4) (eNeg (eC (.int 1)))) (aCons (eV 3) aNil))) (aCons (eC .non) aNil)))) sNx)
  (sSeq (sIf (eB gEq (eB gIx (eW 4) (eC (.int 0))) (eC (.str "put"))) (sSet 3 (eCall 3 m_law_put (aCons (eV 3) (aCons (eB gIx (eW 4) (eC (.int 1))) (aCons (eB gIx (eW 4) (eC (.int 2))) aNil))))) sNx)
  (sSeq (sIf (eB gEq (eB gIx (eW 4) (eC (.int 0))) (eC (.str "copy"))) (sSet 3 (eCall 3 m_law_put (aCons (eV 3) (aCons (eB gIx (eW 4) (eC (.int 1))) (aCons (eB gIx (eW 3) (eB gIx (eW 4) (eC (.int 2)))) aNil))))) sNx)
  (sSeq (sIf (eB gEq (eB gIx (eW 4) (eC (.int 0))) (eC (.str "more"))) (sSeq (sSet 5 (eB gAdd (eB gIx (eW 3) (eB gIx (eW 4) (eC (.int 1)))) (eC (.int 1))))
  (sSet 3 (eCall 3 m_law_put (aCons (eV 3) (aCons (eB gIx (eW 4) (eC (.int 1))) (aCons (eB gIx (eLst (aCons (eV 5) (aCons (eC (.int 0)) aNil))) (eU gInt (eB gGt (eW 5) (eB gIx (eW 0) (eC (.int 1)))))) aNil)))))) sNx)
  (sRet (eTup (aCons (eTup (aCons (eB gAdd (eW 2) (eC (.int 1))) (aCons (eV 3) aNil))) (aCons (eC .non) aNil)))))))))))))
def m_law_step : Mir := fDef 6 b_law_step
theorem sc_law_step : FnScope ["_law_program_here", "_law_state", "_law_at", "_law_numbers_here", "_law_row_here", "_law_more"] ["_law_program_here", "_law_state"] (defScope s_law_step) := ⟨rfl, rfl, rfl, by decide +kernel, rfl, by decide +kernel, by decide +kernel⟩
theorem ok_law_step (T : Tx w K mg) (A : At K mg "_law_step" s_law_step ["_law_program_here", "_law_state"]) (O_law_put : Ok P0 w K mg base 1 "_law_put" 3 m_law_put) : Ok P0 w K mg base 2 "_law_step" 2 m_law_step :=
  okO (N := ["_law_program_here", "_law_state", "_law_at", "_law_numbers_here", "_law_row_here", "_law_more"]) (fs := b_law_step) A sc_law_step rfl rfl fun f cdv A outer s H G E hr =>
    (ss_cons (st_set (i := 2) sc_law_step.nd rfl (by first | exact Or.inl rfl | exact Or.inr rfl) (d_ix (d_w 1) (d_S d_int)))
    (ss_cons (st_set (i := 3) sc_law_step.nd rfl (by first | exact Or.inl rfl | exact Or.inr rfl) (d_ix (d_w 1) (d_S d_int)))
    (ss_cons (st_set (i := 4) sc_law_step.nd rfl (by first | exact Or.inl rfl | exact Or.inr rfl) (d_ix (d_S (d_ix (d_w 0) (d_S d_int))) (d_w 2)))
    (ss_cons (st_if (t_cmp (o_eq hr.units) (d_S (d_ix (d_w 4) (d_S d_int))) (d_S d_str) (nomark _)) (ss_one (st_ret (d_tup (a_consE d_non (a_consE d_non a_nil))))) ss_nil)
    (ss_cons (st_if (t_cmp (o_eq hr.units) (d_S (d_ix (d_w 4) (d_S d_int))) (d_S d_str) (nomark _)) (ss_one (st_ret (d_tup (a_consE (d_tup (a_consE (d_op o_add (d_w 2) (d_S d_int)) (a_consE (d_v 3) a_nil))) (a_consE (d_ix (d_w 3) (d_S (d_ix (d_w 4) (d_S d_int)))) a_nil))))) ss_nil)
    (ss_cons (st_if (t_w (w_or (t_cmp (o_eq hr.units) (d_S (d_ix (d_w 4) (d_S d_int))) (d_S d_str) (nomark _)) (w_or1 (t_w (w_and (t_cmp (o_eq hr.units) (d_S (d_ix (d_w 4) (d_S d_int))) (d_S d_str) (nomark _)) (w_and1 (t_cmp (o_eq hr.units) (d_S (d_ix (d_w 3) (d_S (d_ix (d_w 4) (d_S d_int))))) (d_S d_int) (nomark _)))))))) (ss_one (st_ret (d_tup (a_consE (d_tup (a_consE (d_ix (d_w 4) (d_S (d_neg (d_S d_int)))) (a_consE (d_v 3) a_nil))) (a_consE d_non a_nil))))) ss_nil)
    (ss_cons (st_if (t_cmp (o_eq hr.units) (d_S (d_ix (d_w 4) (d_S d_int))) (d_S d_str) (nomark _)) (ss_one (st_set (i := 3) sc_law_step.nd rfl (by first | exact Or.inl rfl | exact Or.inr rfl) (d_callO O_law_put (hr.mono (by decide)) (by rfl) (tk_of (takes_of rfl rfl rfl rfl)) (a_consE (d_v 3) (a_consE (d_ix (d_w 4) (d_S d_int)) (a_consE (d_ix (d_w 4) (d_S d_int)) a_nil)))))) ss_nil)
    (ss_cons (st_if (t_cmp (o_eq hr.units) (d_S (d_ix (d_w 4) (d_S d_int))) (d_S d_str) (nomark _)) (ss_one (st_set (i := 3) sc_law_step.nd rfl (by first | exact Or.inl rfl | exact Or.inr rfl) (d_callO O_law_put (hr.mono (by decide)) (by rfl) (tk_of (takes_of rfl rfl rfl rfl)) (a_consE (d_v 3) (a_consE (d_ix (d_w 4) (d_S d_int)) (a_consE (d_ix (d_w 3) (d_S (d_ix (d_w 4) (d_S d_int)))) a_nil)))))) ss_nil)
    (ss_cons (st_if (t_cmp (o_eq hr.units) (d_S (d_ix (d_w 4) (d_S d_int))) (d_S d_str) (nomark _)) (ss_cons (st_set (i := 5) sc_law_step.nd rfl (by first | exact Or.inl rfl | exact Or.inr rfl) (d_op o_add (d_S (d_ix (d_w 3) (d_S (d_ix (d_w 4) (d_S d_int))))) (d_S d_int)))
    (ss_one (st_set (i := 3) sc_law_step.nd rfl (by first | exact Or.inl rfl | exact Or.inr rfl) (d_callO O_law_put (hr.mono (by decide)) (by rfl) (tk_of (takes_of rfl rfl rfl rfl)) (a_consE (d_v 3) (a_consE (d_ix (d_w 4) (d_S d_int)) (a_consE (d_ix (d_NS (d_lst (a_consE (d_v 5) (a_consE d_int a_nil)))) (d_S (d_cT c_int (by rfl) T.n_int (by decide +kernel) (d_S (d_cmp o_gt (d_w 5) (d_S (d_ix (d_w 0) (d_S d_int))) (nomark _)))))) a_nil))))))) ss_nil)
    (ss_one (st_ret (d_tup (a_consE (d_tup (a_consE (d_op o_add (d_w 2) (d_S d_int)) (a_consE (d_v 3) a_nil))) (a_consE d_non a_nil))))))))))))))
/-! ### law_met -/
abbrev s_law_met : Stmt := topS 49
def b_law_met : FS := (sSeq (sNewDt 3)
  (sSeq (sWhile 3000 (eB gNotN' (eW 2) (eC .non)) (sSeq (sIf (eDtIn false 3 (eV 2)) (sRet (eTup (aCons (eC (.str "missed")) (aCons (eDtGet 3 (eV 2)) (aCons (eB gSubI (eDtLen 3) (eDtGet 3 (eV 2))) aNil))))) sNx)
  (sSeq (sIf (eB (gDIn false) (eB gIx (eW 2) (eC (.int 0))) (eW 1)) (sRet (eTup (aCons (eB gIx (eLst (aCons (eC (.str "comes")) (aCons (eC (.str "stuck")) aNil))) (eU gInt (eB gIsN' (eCall 2 m_law_turned (aCons (eB gDGet (eW 1) (eB gIx (eW 2) (eC (.int 0)))) (aCons (eB gIx (eW 2) (eC (.int 1))) aNil))) (eC .non)))) (aCons (eDtLen 3) aNil)))) sNx)
  (sSeq (sDtPut 3 (eV 2) (eDtLen 3))
  (sSet 2 (eB gIx (eCall 2 m_law_step (aCons (eV 0) (aCons (eV 2) aNil))) (eC (.int 0))))))))
  (sRet (eTup (aCons (eC (.str "over")) (aCons (eDtLen 3) aNil))))))
def m_law_met : Mir := fDef 4 b_law_met
theorem sc_law_met : FnScope ["_law_one", "_law_rules_here", "_law_state", "_law_came"] ["_law_one", "_law_rules_here", "_law_state"] (defScope s_law_met) := ⟨rfl, rfl, rfl, by decide +kernel, rfl, by decide +kernel, by decide +kernel⟩
theorem ok_law_met (T : Tx w K mg) (A : At K mg "_law_met" s_law_met ["_law_one", "_law_rules_here", "_law_state"]) (O_law_step : Ok P0 w K mg base 2 "_law_step" 2 m_law_step) (O_law_turned : Ok P0 w K mg base 1 "_law_turned" 2 m_law_turned) : Ok P0 w K mg base 3 "_law_met" 3 m_law_met :=
  okO (N := ["_law_one", "_law_rules_here", "_law_state", "_law_came"]) (fs := b_law_met) A sc_law_met rfl rfl fun f cdv A outer s H G E hr =>
    (ss_cons (st_newDt (i := 3) sc_law_met.nd rfl (by first | exact Or.inl rfl | exact Or.inr rfl))
    (ss_cons (st_while (n := 3000) (passes_of rfl) (t_cmp o_notN (d_w 2) (d_S d_non) (nomark _)) (ss_cons (st_if (t_ndIn (i := 3) hr.units (d_v 2) rfl (by first | exact Or.inl rfl | exact Or.inr (Or.inl rfl) | exact Or.inr (Or.inr rfl))) (ss_one (st_ret (d_tup (a_consE d_str (a_consE (d_ndGet (i := 3) hr.units (d_v 2) rfl (by first | exact Or.inl rfl | exact Or.inr (Or.inl rfl) | exact Or.inr (Or.inr rfl))) (a_consE (d_op o_sub (d_S (d_ndLen (i := 3) (by rfl) T.n_len rfl (by first | exact Or.inl rfl | exact Or.inr (Or.inl rfl) | exact Or.inr (Or.inr rfl)))) (d_S (d_ndGet (i := 3) hr.units (d_v 2) rfl (by first | exact Or.inl rfl | exact Or.inr (Or.inl rfl) | exact Or.inr (Or.inr rfl))))) a_nil)))))) ss_nil)
    (ss_cons (st_if (t_cmp (o_dIn hr.units) (d_S (d_ix (d_w 2) (d_S d_int))) (d_w 1) (by rfl)) (ss_one (st_ret (d_tup (a_consE (d_ix (d_NS (d_lst (a_consE d_str (a_consE d_str a_nil)))) (d_S (d_cT c_int (by rfl) T.n_int (by decide +kernel) (d_S (d_cmp o_isN (d_S (d_callO O_law_turned (hr.mono (by decide)) (by rfl) (tk_of (takes_of rfl rfl rfl rfl)) (a_consE (d_dget (hu_of hr) (d_w 1) (d_S (d_ix (d_w 2) (d_S d_int)))) (a_consE (d_ix (d_w 2) (d_S d_int)) a_nil)))) (d_S d_non) (nomark _)))))) (a_consE (d_ndLen (i := 3) (by rfl) T.n_len rfl (by first | exact Or.inl rfl | exact Or.inr (Or.inl rfl) | exact Or.inr (Or.inr rfl))) a_nil))))) ss_nil)
    (ss_cons (st_ndPut (i := 3) hr.units (d_ndLen (i := 3) (by rfl) T.n_len rfl (by first | exact Or.inl rfl | exact Or.inr (Or.inl rfl) | exact Or.inr (Or.inr rfl))) (d_v 2) rfl (by first | exact Or.inl rfl | exact Or.inr (Or.inl rfl) | exact Or.inr (Or.inr rfl)))
    (ss_one (st_set (i := 2) sc_law_met.nd rfl (by first | exact Or.inl rfl | exact Or.inr rfl) (d_ix (d_S (d_callO O_law_step (hr.mono (by decide)) (by rfl) (tk_of (takes_of rfl rfl rfl rfl)) (a_consE (d_v 0) (a_consE (d_v 2) a_nil)))) (d_S d_int))))))))
    (ss_one (st_ret (d_tup (a_consE d_str (a_consE (d_ndLen (i := 3) (by rfl) T.n_len rfl (by first | exact Or.inl rfl | exact Or.inr (Or.inl rfl) | exact Or.inr (Or.inr rfl))) a_nil)))))))
/-! ### law_is_safe -/
abbrev s_law_is_safe : Stmt := topS 51
def b_law_is_safe : FS := (sSeq (sNewDt 2)
  (sSeq (sFor (iIt (eCall 1 m_law_begins (aCons (eV 0) aNil))) (.nm 3) (sSeq (sSet 4 (eTup (aCons (eC (.int 0)) (aCons (eV 3) aNil))))
  (sSeq (sNewDt 5)
  (sSeq (sWhile 3000 (eAnd (eB gNotN' (eW 4) (eC .non)) (eAnd (eDtIn true 2 (eV 4)) (eDtIn true 5 (eV 4)))) (sSeq (sDtPut 5 (eV 4) (eDtLen 5))
  (sSet 4 (eB gIx (eCall 2 m_law_step (aCons (eV 0) (aCons (eV 4) aNil))) (eC (.int 0))))))
  (sSeq (sSet 6 (eC (.str "over")))
  (sSeq (sIf (eDtIn false 2 (eV 4)) (sSet 6 (eDtGet 2 (eV 4))) sNx)
  (sSeq (sIf (eDtIn false 5 (eV 4)) (sSet 6 (eB gIx (eCall 3 m_law_met (aCons (eV 0) (aCons (eV 1) (aCons (eV 4) aNil)))) (eC (.int 0)))) sNx)
  (sExpB 2 4 m_law_gone_back (aCons (eV 1) (aCons (eDtKeys 5) (aCons (eV 6) (aCons (eC .non) aNil))))))))))))
  (sRet (eAnd (eVnin 2 (eC (.str "stuck"))) (eVnin 2 (eC (.str "missed")))))))
def m_law_is_safe : Mir := fDef 7 b_law_is_safe
theorem sc_law_is_safe : FnScope ["_law_one", "_law_rules_here", "_law_known", "_law_begin", "_law_state", "_law_here", "_law_word_here"] ["_law_one", "_law_rules_here"] (defScope s_law_is_safe) := ⟨rfl, rfl, rfl, by decide +kernel, rfl, by decide +kernel, by decide +kernel⟩
theorem ok_law_is_safe (T : Tx w K mg) (A : At K mg "_law_is_safe" s_law_is_safe ["_law_one", "_law_rules_here"]) (O_law_begins : Ok P0 w K mg base 1 "_law_begins" 1 m_law_begins) (O_law_gone_back : OkB P0 w K mg base 2 "_law_gone_back" 4 3 m_law_gone_back) (O_law_met : Ok P0 w K mg base 3 "_law_met" 3 m_law_met) (O_law_step : Ok P0 w K mg base 2 "_law_step" 2 m_law_step) : Ok P0 w K mg base 4 "_law_is_safe" 2 m_law_is_safe :=
  okO (N := ["_law_one", "_law_rules_here", "_law_known", "_law_begin", "_law_state", "_law_here", "_law_word_here"]) (fs := b_law_is_safe) A sc_law_is_safe rfl rfl fun f cdv A outer s H G E hr =>
    (ss_cons (st_newDt (i := 2) sc_law_is_safe.nd rfl (by first | exact Or.inl rfl | exact Or.inr rfl))
    (ss_cons (st_for (passes_of rfl) rfl (i_seq (d_callO O_law_begins (hr.mono (by decide)) (by rfl) (tk_of (takes_of rfl rfl rfl rfl)) (a_consE (d_v 0) a_nil))) (pg_name (i := 3) sc_law_is_safe.nd rfl (by first | exact Or.inl rfl | exact Or.inr rfl)) (ss_cons (st_set (i := 4) sc_law_is_safe.nd rfl (by first | exact Or.inl rfl | exact Or.inr rfl) (d_tup (a_consE d_int (a_consE (d_v 3) a_nil))))
    (ss_cons (st_newDt (i := 5) sc_law_is_safe.nd rfl (by first | exact Or.inl rfl | exact Or.inr rfl))
    (ss_cons (st_while (n := 3000) (passes_of rfl) (t_w (w_and (t_cmp o_notN (d_w 4) (d_S d_non) (nomark _)) (w_and (t_ndNin (i := 2) hr.units (d_v 4) rfl (by first | exact Or.inl rfl | exact Or.inr (Or.inl rfl) | exact Or.inr (Or.inr rfl))) (w_and1 (t_ndNin (i := 5) hr.units (d_v 4) rfl (by first | exact Or.inl rfl | exact Or.inr (Or.inl rfl) | exact Or.inr (Or.inr rfl))))))) (ss_cons (st_ndPut (i := 5) hr.units (d_ndLen (i := 5) (by rfl) T.n_len rfl (by first | exact Or.inl rfl | exact Or.inr (Or.inl rfl) | exact Or.inr (Or.inr rfl))) (d_v 4) rfl (by first | exact Or.inl rfl | exact Or.inr (Or.inl rfl) | exact Or.inr (Or.inr rfl)))
    (ss_one (st_set (i := 4) sc_law_is_safe.nd rfl (by first | exact Or.inl rfl | exact Or.inr rfl) (d_ix (d_S (d_callO O_law_step (hr.mono (by decide)) (by rfl) (tk_of (takes_of rfl rfl rfl rfl)) (a_consE (d_v 0) (a_consE (d_v 4) a_nil)))) (d_S d_int))))))
    (ss_cons (st_set (i := 6) sc_law_is_safe.nd rfl (by first | exact Or.inl rfl | exact Or.inr rfl) d_str)
    (ss_cons (st_if (t_ndIn (i := 2) hr.units (d_v 4) rfl (by first | exact Or.inl rfl | exact Or.inr (Or.inl rfl) | exact Or.inr (Or.inr rfl))) (ss_one (st_set (i := 6) sc_law_is_safe.nd rfl (by first | exact Or.inl rfl | exact Or.inr rfl) (d_ndGet (i := 2) hr.units (d_v 4) rfl (by first | exact Or.inl rfl | exact Or.inr (Or.inl rfl) | exact Or.inr (Or.inr rfl))))) ss_nil)
    (ss_cons (st_if (t_ndIn (i := 5) hr.units (d_v 4) rfl (by first | exact Or.inl rfl | exact Or.inr (Or.inl rfl) | exact Or.inr (Or.inr rfl))) (ss_one (st_set (i := 6) sc_law_is_safe.nd rfl (by first | exact Or.inl rfl | exact Or.inr rfl) (d_ix (d_S (d_callO O_law_met (hr.mono (by decide)) (by rfl) (tk_of (takes_of rfl rfl rfl rfl)) (a_consE (d_v 0) (a_consE (d_v 1) (a_consE (d_v 4) a_nil))))) (d_S d_int)))) ss_nil)
    (ss_one (st_expB O_law_gone_back (hr.mono (by decide)) (by rfl) (tk_of (takes_of rfl rfl rfl rfl)) (ab_cons (d_v 1) (ab_cons (d_NE (d_ndList (i := 5) rfl (by rfl) T.n_list rfl (by first | exact Or.inl rfl | exact Or.inr (Or.inl rfl) | exact Or.inr (Or.inr rfl)))) (ab_cons (d_v 6) (ab_first 2 a_nil)))))))))))))
    (ss_one (st_ret (d_and (d_ndVn (i := 2) rfl d_str rfl (by first | exact Or.inl rfl | exact Or.inr (Or.inl rfl) | exact Or.inr (Or.inr rfl))) (d_one (d_ndVn (i := 2) rfl d_str rfl (by first | exact Or.inl rfl | exact Or.inr (Or.inl rfl) | exact Or.inr (Or.inr rfl)))))))))
/-! ### law_odd_place -/
abbrev s_law_odd_place : Stmt := topS 55
def b_law_odd_place : FS := (sSeq (sSet 4 (eU gTuple (eB gMul (eLst (aCons (eTup (aCons (eC (.str "is")) (aCons (eC (.int 0)) aNil))) aNil)) (eB gIx (eW 1) (eC (.int 0))))))
  (sSeq (sSet 5 (eLst (aCons (eC .non) (aCons (eTup (aCons (eC (.int 0)) (aCons (eC (.int 0)) aNil))) (aCons (eLst (aCons (eC (.int 0)) (aCons (eC (.int 0)) (aCons (eV 4) aNil)))) (aCons (eTup (aCons (eU gLen (eB gIx (eW 0) (eC (.int 2)))) (aCons (eC (.int 0)) (aCons (eV 4) aNil)))) (aCons (eTup (aCons (eC (.int 0)) (aCons (eU gLen (eB gIx (eW 1) (eC (.int 2)))) (aCons (eV 4) aNil)))) (aCons (eTup (aCons (eNeg (eC (.int 1))) (aCons (eC (.int 0)) (aCons (eV 4) aNil)))) aNil))))))))
  (sSeq (sSet 5 (eB gAdd (eW 5) (eLst (aCons (eTup (aCons (eC (.int 0)) (aCons (eC (.int 0)) (aCons (eU gList (eW 4)) aNil)))) (aCons (eTup (aCons (eC (.int 0)) (aCons (eC (.int 0)) (aCons (eB gAdd (eW 4) (eTup (aCons (eTup (aCons (eC (.str "is")) (aCons (eC (.int 0)) aNil))) aNil))) aNil)))) (aCons (eTup (aCons (eC (.bl true)) (aCons (eC (.int 0)) (aCons (eV 4) aNil)))) (aCons (eTup (aCons (eC (.int 0)) (aCons (eC (.int 0)) (aCons (eV 4) (aCons (eC (.int 0)) aNil))))) aNil)))))))
  (sSeq (sSet 5 (eB gAdd (eW 5) (eLst (aCons (eTup (aCons (eC (.int 0)) (aCons (eC (.int 0)) (aCons (eB gAdd (eSl (eW 4) (oSome (eC (.int 1))) oNone) (eTup (aCons (eTup (aCons (eC (.str "is")) (aCons (eB gAdd (eB gIx (eW 1) (eC (.int 1))) (eC (.int 1))) aNil))) aNil))) aNil)))) (aCons (eTup (aCons (eC (.int 0)) (aCons (eC (.int 0)) (aCons (eB gAdd (eSl (eW 4) (oSome (eC (.int 1))) oNone) (eTup (aCons (eTup (aCons (eC (.str "by")) (aCons (eC (.int 0)) (aCons (eTup aNil) aNil)))) aNil))) aNil)))) aNil)))))
  (sSeq (sIf (eB gEq (eB gIx (eW 1) (eC (.int 0))) (eC (.int 0))) (sSet 5 (eSl (eW 5) oNone (oSome (eC (.int 10))))) sNx)
  (sSeq (sIf (eB gNe (eW 2) (eLst aNil)) (sSet 5 (eB gAdd (eW 5) (eLst (aCons (eB gIx (eW 2) (eC (.int 0))) (aCons (eB gAdd (eSl (eB gIx (eW 2) (eC (.int 0))) oNone (oSome (eC (.int 1)))) (eTup (aCons (eC (.int 0)) (aCons (eV 4) aNil)))) aNil))))) sNx)
  (sRet (eB gIx (eW 5) (eB gMod (eW 3) (eU gLen (eW 5)))))))))))
def m_law_odd_place : Mir := fDef 6 b_law_odd_place
theorem sc_law_odd_place : FnScope ["_law_one", "_law_two", "_law_places_here", "_law_cell", "_law_rules_here", "_law_some"] ["_law_one", "_law_two", "_law_places_here", "_law_cell"] (defScope s_law_odd_place) := ⟨rfl, rfl, rfl, by decide +kernel, rfl, by decide +kernel, by decide +kernel⟩
theorem ok_law_odd_place (T : Tx w K mg) (A : At K mg "_law_odd_place" s_law_odd_place ["_law_one", "_law_two", "_law_places_here", "_law_cell"]) : Ok P0 w K mg base 1 "_law_odd_place" 4 m_law_odd_place :=
  okO (N := ["_law_one", "_law_two", "_law_places_here", "_law_cell", "_law_rules_here", "_law_some"]) (fs := b_law_odd_place) A sc_law_odd_place rfl rfl fun f cdv A outer s H G E hr =>
    (ss_cons (st_set (i := 4) sc_law_odd_place.nd rfl (by first | exact Or.inl rfl | exact Or.inr rfl) (d_cT c_tuple (by rfl) T.n_tuple (by decide +kernel) (d_S (d_op o_mul (d_NS (d_lst (a_consE (d_tup (a_consE d_str (a_consE d_int a_nil))) a_nil))) (d_S (d_ix (d_w 1) (d_S d_int)))))))
    (ss_cons (st_set (i := 5) sc_law_odd_place.nd rfl (by first | exact Or.inl rfl | exact Or.inr rfl) (d_NE (d_lst (a_consE d_non (a_consE (d_tup (a_consE d_int (a_consE d_int a_nil))) (a_consE (d_NE (d_lst (a_consE d_int (a_consE d_int (a_consE (d_v 4) a_nil))))) (a_consE (d_tup (a_consE (d_cB c_len (by rfl) T.n_len PySem.boot_len (d_S (d_ix (d_w 0) (d_S d_int)))) (a_consE d_int (a_consE (d_v 4) a_nil)))) (a_consE (d_tup (a_consE d_int (a_consE (d_cB c_len (by rfl) T.n_len PySem.boot_len (d_S (d_ix (d_w 1) (d_S d_int)))) (a_consE (d_v 4) a_nil)))) (a_consE (d_tup (a_consE (d_neg (d_S d_int)) (a_consE d_int (a_consE (d_v 4) a_nil)))) a_nil)))))))))
    (ss_cons (st_set (i := 5) sc_law_odd_place.nd rfl (by first | exact Or.inl rfl | exact Or.inr rfl) (d_op o_add (d_w 5) (d_NS (d_lst (a_consE (d_tup (a_consE d_int (a_consE d_int (a_consE (d_NE (d_cT c_list (by rfl) T.n_list (by decide +kernel) (d_w 4))) a_nil)))) (a_consE (d_tup (a_consE d_int (a_consE d_int (a_consE (d_op o_add (d_w 4) (d_S (d_tup (a_consE (d_tup (a_consE d_str (a_consE d_int a_nil))) a_nil)))) a_nil)))) (a_consE (d_tup (a_consE d_bl (a_consE d_int (a_consE (d_v 4) a_nil)))) (a_consE (d_tup (a_consE d_int (a_consE d_int (a_consE (d_v 4) (a_consE d_int a_nil))))) a_nil))))))))
    (ss_cons (st_set (i := 5) sc_law_odd_place.nd rfl (by first | exact Or.inl rfl | exact Or.inr rfl) (d_op o_add (d_w 5) (d_NS (d_lst (a_consE (d_tup (a_consE d_int (a_consE d_int (a_consE (d_op o_add (d_S (d_sl (d_w 4) (o_some d_int) o_none)) (d_S (d_tup (a_consE (d_tup (a_consE d_str (a_consE (d_op o_add (d_S (d_ix (d_w 1) (d_S d_int))) (d_S d_int)) a_nil))) a_nil)))) a_nil)))) (a_consE (d_tup (a_consE d_int (a_consE d_int (a_consE (d_op o_add (d_S (d_sl (d_w 4) (o_some d_int) o_none)) (d_S (d_tup (a_consE (d_tup (a_consE d_str (a_consE d_int (a_consE (d_tup a_nil) a_nil)))) a_nil)))) a_nil)))) a_nil))))))
    (ss_cons (st_if (t_cmp (o_eq hr.units) (d_S (d_ix (d_w 1) (d_S d_int))) (d_S d_int) (nomark _)) (ss_one (st_set (i := 5) sc_law_odd_place.nd rfl (by first | exact Or.inl rfl | exact Or.inr rfl) (d_sl (d_w 5) o_none (o_some d_int)))) ss_nil)
    (ss_cons (st_if (t_cmp (o_ne hr.units) (d_w 2) (d_NS (d_lst a_nil)) (nomark _)) (ss_one (st_set (i := 5) sc_law_odd_place.nd rfl (by first | exact Or.inl rfl | exact Or.inr rfl) (d_op o_add (d_w 5) (d_NS (d_lst (a_consE (d_ix (d_w 2) (d_S d_int)) (a_consE (d_op o_add (d_S (d_sl (d_S (d_ix (d_w 2) (d_S d_int))) o_none (o_some d_int))) (d_S (d_tup (a_consE d_int (a_consE (d_v 4) a_nil))))) a_nil))))))) ss_nil)
    (ss_one (st_ret (d_ix (d_w 5) (d_S (d_op o_mod (d_w 3) (d_S (d_cB c_len (by rfl) T.n_len PySem.boot_len (d_w 5))))))))))))))
/-! ### law_next -/
abbrev s_law_next : Stmt := topS 38
def b_law_next : FS := (sRet (eB gMod (eB gAdd (eB gMul (eW 0) (eC (.int 48271))) (eC (.int 11))) (eC (.int 2147483647))))
def m_law_next : Mir := fDef 1 b_law_next
theorem sc_law_next : FnScope ["_law_seed"] ["_law_seed"] (defScope s_law_next) := ⟨rfl, rfl, rfl, by decide +kernel, rfl, by decide +kernel, by decide +kernel⟩
theorem ok_law_next (T : Tx w K mg) (A : At K mg "_law_next" s_law_next ["_law_seed"]) : Ok P0 w K mg base 1 "_law_next" 1 m_law_next :=
  okO (N := ["_law_seed"]) (fs := b_law_next) A sc_law_next rfl rfl fun f cdv A outer s H G E hr =>
    (ss_one (st_ret (d_op o_mod (d_S (d_op o_add (d_S (d_op o_mul (d_w 0) (d_S d_int))) (d_S d_int))) (d_S d_int))))
/-! ### law_rule -/
abbrev s_law_rule : Stmt := topS 41
def b_law_rule : FS := (sSeq (sIf (eOr (eB gEq (eB gIx (eW 1) (eC (.int 0))) (eC (.int 0))) (eB gEq (eB gMod (eW 0) (eC (.int 4))) (eC (.int 0)))) (sRet (eTup (aCons (eC (.str "is")) (aCons (eB gIx (eLst (aCons (eB gMod (eB gDiv (eW 0) (eC (.int 4))) (eB gAdd (eB gIx (eW 2) (eC (.int 1))) (eC (.int 1)))) (aCons (eC .non) aNil))) (eU gInt (eB gEq (eB gMod (eB gDiv (eW 0) (eC (.int 40))) (eC (.int 13))) (eC (.int 1))))) aNil)))) sNx)
  (sSeq (sNew 3 (eLst aNil))
  (sSeq (sFor (iRg (eB gAdd (eB gIx (eW 1) (eC (.int 1))) (eC (.int 1)))) (.nm 4) (sApp 3 (eB gIx (eLst (aCons (eB gMod (eB gDiv (eW 0) (eB gAdd (eC (.int 4)) (eB gMul (eC (.int 5)) (eW 4)))) (eB gAdd (eB gIx (eW 2) (eC (.int 1))) (eC (.int 1)))) (aCons (eC .non) aNil))) (eU gInt (eB gEq (eB gMod (eB gDiv (eW 0) (eB gAdd (eC (.int 40)) (eB gMul (eC (.int 7)) (eW 4)))) (eC (.int 23))) (eC (.int 1)))))))
  (sRet (eTup (aCons (eC (.str "by")) (aCons (eB gMod (eB gDiv (eW 0) (eC (.int 400))) (eB gIx (eW 1) (eC (.int 0)))) (aCons (eU gTuple (eW 3)) aNil))))))))
def m_law_rule : Mir := fDef 5 b_law_rule
theorem sc_law_rule : FnScope ["_law_seed", "_law_one", "_law_two", "_law_numbers_here", "_law_k"] ["_law_seed", "_law_one", "_law_two"] (defScope s_law_rule) := ⟨rfl, rfl, rfl, by decide +kernel, rfl, by decide +kernel, by decide +kernel⟩
theorem ok_law_rule (T : Tx w K mg) (A : At K mg "_law_rule" s_law_rule ["_law_seed", "_law_one", "_law_two"]) : Ok P0 w K mg base 1 "_law_rule" 3 m_law_rule :=
  okO (N := ["_law_seed", "_law_one", "_law_two", "_law_numbers_here", "_law_k"]) (fs := b_law_rule) A sc_law_rule rfl rfl fun f cdv A outer s H G E hr =>
    (ss_cons (st_if (t_w (w_or (t_cmp (o_eq hr.units) (d_S (d_ix (d_w 1) (d_S d_int))) (d_S d_int) (nomark _)) (w_or1 (t_cmp (o_eq hr.units) (d_S (d_op o_mod (d_w 0) (d_S d_int))) (d_S d_int) (nomark _))))) (ss_one (st_ret (d_tup (a_consE d_str (a_consE (d_ix (d_NS (d_lst (a_consE (d_op o_mod (d_S (d_op o_div (d_w 0) (d_S d_int))) (d_S (d_op o_add (d_S (d_ix (d_w 2) (d_S d_int))) (d_S d_int)))) (a_consE d_non a_nil)))) (d_S (d_cT c_int (by rfl) T.n_int (by decide +kernel) (d_S (d_cmp (o_eq hr.units) (d_S (d_op o_mod (d_S (d_op o_div (d_w 0) (d_S d_int))) (d_S d_int))) (d_S d_int) (nomark _)))))) a_nil))))) ss_nil)
    (ss_cons (st_new (i := 3) sc_law_rule.nd rfl (by first | exact Or.inl rfl | exact Or.inr rfl) (d_lst a_nil))
    (ss_cons (st_for (passes_of rfl) rfl (i_rg (by rfl) T.n_range (d_op o_add (d_S (d_ix (d_w 1) (d_S d_int))) (d_S d_int))) (pg_name (i := 4) sc_law_rule.nd rfl (by first | exact Or.inl rfl | exact Or.inr rfl)) (ss_one (st_app 3 rfl (by first | exact Or.inl rfl | exact Or.inr (Or.inl rfl)) (d_ix (d_NS (d_lst (a_consE (d_op o_mod (d_S (d_op o_div (d_w 0) (d_S (d_op o_add (d_S d_int) (d_S (d_op o_mul (d_S d_int) (d_w 4))))))) (d_S (d_op o_add (d_S (d_ix (d_w 2) (d_S d_int))) (d_S d_int)))) (a_consE d_non a_nil)))) (d_S (d_cT c_int (by rfl) T.n_int (by decide +kernel) (d_S (d_cmp (o_eq hr.units) (d_S (d_op o_mod (d_S (d_op o_div (d_w 0) (d_S (d_op o_add (d_S d_int) (d_S (d_op o_mul (d_S d_int) (d_w 4))))))) (d_S d_int))) (d_S d_int) (nomark _)))))) (pe_bm PySem.F.plainAttrs_list PySem.F.slot_list_append PySem.F.type_list_append mt_append (pv 3) (pa_cons (d_ix (d_NS (d_lst (a_consE (d_op o_mod (d_S (d_op o_div (d_w 0) (d_S (d_op o_add (d_S d_int) (d_S (d_op o_mul (d_S d_int) (d_w 4))))))) (d_S (d_op o_add (d_S (d_ix (d_w 2) (d_S d_int))) (d_S d_int)))) (a_consE d_non a_nil)))) (d_S (d_cT c_int (by rfl) T.n_int (by decide +kernel) (d_S (d_cmp (o_eq hr.units) (d_S (d_op o_mod (d_S (d_op o_div (d_w 0) (d_S (d_op o_add (d_S d_int) (d_S (d_op o_mul (d_S d_int) (d_w 4))))))) (d_S d_int))) (d_S d_int) (nomark _)))))) pa_nil)))))
    (ss_one (st_ret (d_tup (a_consE d_str (a_consE (d_op o_mod (d_S (d_op o_div (d_w 0) (d_S d_int))) (d_S (d_ix (d_w 1) (d_S d_int)))) (a_consE (d_cT c_tuple (by rfl) T.n_tuple (by decide +kernel) (d_w 3)) a_nil)))))))))
/-! ### law_places -/
abbrev s_law_places : Stmt := topS 42
def b_law_places : FS := (sSeq (sNew 3 (eLst aNil))
  (sSeq (sSet 4 (eCall 1 m_law_next (aCons (eV 0) aNil)))
  (sSeq (sFor (iRg (eU gLen (eB gIx (eW 1) (eC (.int 2))))) (.nm 5) (sSeq (sSet 4 (eCall 1 m_law_next (aCons (eB gAdd (eW 4) (eW 5)) aNil)))
  (sIf (eB gGt (eB gMod (eW 4) (eC (.int 3))) (eC (.int 0))) (sSeq (sSet 6 (eU gTuple (eComp (iRg (eB gIx (eW 2) (eC (.int 0)))) (.nm 7) [7] (eC (.bl true)) (eCall 3 m_law_rule (aCons (eCall 1 m_law_next (aCons (eB gAdd (eW 4) (eB gMul (eC (.int 7)) (eW 7))) aNil)) (aCons (eV 1) (aCons (eV 2) aNil)))))))
  (sIns 3 (eB gMod (eB gDiv (eW 4) (eC (.int 9))) (eB gAdd (eU gLen (eW 3)) (eC (.int 1)))) (eTup (aCons (eV 5) (aCons (eB gMod (eB gDiv (eW 4) (eC (.int 5))) (eU gLen (eB gIx (eW 2) (eC (.int 2))))) (aCons (eV 6) aNil)))))) sNx)))
  (sFrz 3 (sRet (eV 3))))))
def m_law_places : Mir := fDef 8 b_law_places
theorem sc_law_places : FnScope ["_law_cell", "_law_one", "_law_two", "_law_found", "_law_seed", "_law_row_here", "_law_rules_here", "_law_k"] ["_law_cell", "_law_one", "_law_two"] (defScope s_law_places) := ⟨rfl, rfl, rfl, by decide +kernel, rfl, by decide +kernel, by decide +kernel⟩
theorem ok_law_places (T : Tx w K mg) (A : At K mg "_law_places" s_law_places ["_law_cell", "_law_one", "_law_two"]) (O_law_next : Ok P0 w K mg base 1 "_law_next" 1 m_law_next) (O_law_rule : Ok P0 w K mg base 1 "_law_rule" 3 m_law_rule) : Ok P0 w K mg base 2 "_law_places" 3 m_law_places :=
  okO (N := ["_law_cell", "_law_one", "_law_two", "_law_found", "_law_seed", "_law_row_here", "_law_rules_here", "_law_k"]) (fs := b_law_places) A sc_law_places rfl rfl fun f cdv A outer s H G E hr =>
    (ss_cons (st_new (i := 3) sc_law_places.nd rfl (by first | exact Or.inl rfl | exact Or.inr rfl) (d_lst a_nil))
    (ss_cons (st_set (i := 4) sc_law_places.nd rfl (by first | exact Or.inl rfl | exact Or.inr rfl) (d_callO O_law_next (hr.mono (by decide)) (by rfl) (tk_of (takes_of rfl rfl rfl rfl)) (a_consE (d_v 0) a_nil)))
    (ss_cons (st_for (passes_of rfl) rfl (i_rg (by rfl) T.n_range (d_cB c_len (by rfl) T.n_len PySem.boot_len (d_S (d_ix (d_w 1) (d_S d_int))))) (pg_name (i := 5) sc_law_places.nd rfl (by first | exact Or.inl rfl | exact Or.inr rfl)) (ss_cons (st_set (i := 4) sc_law_places.nd rfl (by first | exact Or.inl rfl | exact Or.inr rfl) (d_callO O_law_next (hr.mono (by decide)) (by rfl) (tk_of (takes_of rfl rfl rfl rfl)) (a_consE (d_op o_add (d_w 4) (d_w 5)) a_nil)))
    (ss_one (st_if (t_cmp o_gt (d_S (d_op o_mod (d_w 4) (d_S d_int))) (d_S d_int) (nomark _)) (ss_cons (st_set (i := 6) sc_law_places.nd rfl (by first | exact Or.inl rfl | exact Or.inr rfl) (d_cT c_tuple (by rfl) T.n_tuple (by decide +kernel) (d_NS (d_lc (own := [("_law_k", 7)]) rfl sc_law_places.nd (i_rg (by rfl) T.n_range (d_ix (d_w 2) (d_S d_int))) (blkOk_by (own := [("_law_k", 7)]) (N := ["_law_cell", "_law_one", "_law_two", "_law_found", "_law_seed", "_law_row_here", "_law_rules_here", "_law_k"]) (sc := defScope s_law_places) (by decide +kernel)) (by decide) (fun _ _ _ _ _ => (asDG (.nm 7) (pg_name (i := 7) sc_law_places.nd rfl (by first | exact Or.inl rfl | exact Or.inr rfl)))) (fun _ _ _ _ _ => ts_nil) (fun _ _ _ _ _ => (d_callO O_law_rule (hr.mono (by decide)) (by rfl) tk0 (a_consE (d_callO O_law_next (hr.mono (by decide)) (by rfl) tk0 (a_consE (d_op o_add (d_w 4) (d_S (d_op o_mul (d_S d_int) (d_w 7)))) a_nil)) (a_consE (d_v 1) (a_consE (d_v 2) a_nil)))))))))
    (ss_one (st_ins 3 rfl (by first | exact Or.inl rfl | exact Or.inr (Or.inl rfl)) (d_op o_mod (d_S (d_op o_div (d_w 4) (d_S d_int))) (d_S (d_op o_add (d_S (d_cB c_len (by rfl) T.n_len PySem.boot_len (d_w 3))) (d_S d_int)))) (d_tup (a_consE (d_v 5) (a_consE (d_op o_mod (d_S (d_op o_div (d_w 4) (d_S d_int))) (d_S (d_cB c_len (by rfl) T.n_len PySem.boot_len (d_S (d_ix (d_w 2) (d_S d_int)))))) (a_consE (d_v 6) a_nil)))) (pe_bm PySem.F.plainAttrs_list PySem.F.slot_list_insert PySem.F.type_list_insert mt_insert (pv 3) (pa_cons (d_op o_mod (d_S (d_op o_div (d_w 4) (d_S d_int))) (d_S (d_op o_add (d_S (d_cB c_len (by rfl) T.n_len PySem.boot_len (d_w 3))) (d_S d_int)))) (pa_cons (d_tup (a_consE (d_v 5) (a_consE (d_op o_mod (d_S (d_op o_div (d_w 4) (d_S d_int))) (d_S (d_cB c_len (by rfl) T.n_len PySem.boot_len (d_S (d_ix (d_w 2) (d_S d_int)))))) (a_consE (d_v 6) a_nil)))) pa_nil)))))) ss_nil))))
    (ss_one (st_frz 3 (st_ret (d_v 3)))))))
/-! ### law_plain -/
abbrev s_law_plain : Stmt := topS 53
def b_law_plain (m_rec : Mir) : FS := (sSeq (sIf (eU (gIsi2 "tuple" "list") (eW 0)) (sRet (eU gAll (eComp (iIt (eV 0)) (.nm 1) [1] (eC (.bl true)) (eCall 1 m_rec (aCons (eV 1) aNil))))) sNx)
  (sRet (eNot (eU (gIsi "bool") (eW 0)))))
def r_law_plain : Nat → Mir
  | 0 => fun _ => .bad
  | n + 1 => fDef 2 (b_law_plain (r_law_plain n))
abbrev m_law_plain : Mir := r_law_plain 8
theorem sc_law_plain : FnScope ["_law_thing", "_law_part"] ["_law_thing"] (defScope s_law_plain) := ⟨rfl, rfl, rfl, by decide +kernel, rfl, by decide +kernel, by decide +kernel⟩
theorem okr_law_plain (T : Tx w K mg) (A : At K mg "_law_plain" s_law_plain ["_law_thing"]) : ∀ n : Nat, Ok P0 w K mg base (n + 1) "_law_plain" 1 (r_law_plain n)
  | 0 => ok_none A sc_law_plain rfl (by decide)
  | n + 1 => by
    have O_law_plain := okr_law_plain T A n
    exact okO (N := ["_law_thing", "_law_part"]) (fs := b_law_plain (r_law_plain n)) A sc_law_plain rfl rfl fun f cdv A outer s H G E hr =>
    (ss_cons (st_if (t_val (d_isiT2 (by rfl) T.n_isinstance (d_w 0) (by rfl) T.n_tuple (by decide +kernel) (by rfl) T.n_list (by decide +kernel))) (ss_one (st_ret (d_cB (c_all rfl) (by rfl) T.n_all (by decide +kernel) (d_NS (d_lc (own := [("_law_part", 1)]) rfl sc_law_plain.nd (i_seq (d_v 0)) (blkOk_by (own := [("_law_part", 1)]) (N := ["_law_thing", "_law_part"]) (sc := defScope s_law_plain) (by decide +kernel)) (by decide) (fun _ _ _ _ _ => (asDG (.nm 1) (pg_name (i := 1) sc_law_plain.nd rfl (by first | exact Or.inl rfl | exact Or.inr rfl)))) (fun _ _ _ _ _ => ts_nil) (fun _ _ _ _ _ => (d_callO O_law_plain (hr.mono (by omega)) (by rfl) tk0 (a_consE (d_v 1) a_nil)))))))) ss_nil)
    (ss_one (st_ret (d_not (d_isi (by rfl) T.n_isinstance (d_w 0) (by rfl) T.n_bool (by decide +kernel))))))
theorem ok_law_plain (T : Tx w K mg) (A : At K mg "_law_plain" s_law_plain ["_law_thing"]) : Ok P0 w K mg base 9 "_law_plain" 1 m_law_plain := okr_law_plain T A 8
/-! ### law_row -/
abbrev s_law_row : Stmt := topS 39
def b_law_row : FS := (sSeq (sSet 4 (eB gMod (eW 0) (eC (.int 10))))
  (sSeq (sIf (eB gEq (eW 1) (eC (.int 0))) (sRet (eB gIx (eLst (aCons (eTup (aCons (eC (.str "go")) (aCons (eB gMod (eB gDiv (eW 0) (eC (.int 10))) (eW 3)) aNil))) (aCons (eTup (aCons (eC (.str "stop")) aNil)) aNil))) (eB gDiv (eW 4) (eC (.int 7))))) sNx)
  (sSeq (sSet 5 (eB gMod (eB gDiv (eW 0) (eC (.int 10))) (eW 1)))
  (sSeq (sIf (eB gLt (eW 4) (eC (.int 2))) (sRet (eTup (aCons (eC (.str "put")) (aCons (eV 5) (aCons (eB gMod (eB gDiv (eW 0) (eC (.int 50))) (eB gAdd (eW 2) (eC (.int 1)))) aNil))))) sNx)
  (sSeq (sIf (eB gLt (eW 4) (eC (.int 4))) (sRet (eTup (aCons (eC (.str "more")) (aCons (eV 5) aNil)))) sNx)
  (sSeq (sIf (eB gEq (eW 4) (eC (.int 4))) (sRet (eTup (aCons (eC (.str "copy")) (aCons (eV 5) (aCons (eB gMod (eB gDiv (eW 0) (eC (.int 50))) (eW 1)) aNil))))) sNx)
  (sSeq (sIf (eB gLt (eW 4) (eC (.int 7))) (sRet (eTup (aCons (eC (.str "tell")) (aCons (eV 5) aNil)))) sNx)
  (sSeq (sIf (eB gEq (eW 4) (eC (.int 7))) (sRet (eB gIx (eLst (aCons (eTup (aCons (eC (.str "go")) (aCons (eB gMod (eB gDiv (eW 0) (eC (.int 50))) (eW 3)) aNil))) (aCons (eTup (aCons (eC (.str "stop")) aNil)) aNil))) (eB gMod (eB gDiv (eW 0) (eC (.int 20))) (eC (.int 2))))) sNx)
  (sRet (eTup (aCons (eC (.str "ask")) (aCons (eV 5) (aCons (eB gMod (eB gDiv (eW 0) (eC (.int 50))) (eW 3)) aNil)))))))))))))
def m_law_row : Mir := fDef 6 b_law_row
theorem sc_law_row : FnScope ["_law_seed", "_law_boxes", "_law_most", "_law_many", "_law_pick", "_law_box"] ["_law_seed", "_law_boxes", "_law_most", "_law_many"] (defScope s_law_row) := ⟨rfl, rfl, rfl, by decide +kernel, rfl, by decide +kernel, by decide +kernel⟩
theorem ok_law_row (T : Tx w K mg) (A : At K mg "_law_row" s_law_row ["_law_seed", "_law_boxes", "_law_most", "_law_many"]) : Ok P0 w K mg base 1 "_law_row" 4 m_law_row :=
  okO (N := ["_law_seed", "_law_boxes", "_law_most", "_law_many", "_law_pick", "_law_box"]) (fs := b_law_row) A sc_law_row rfl rfl fun f cdv A outer s H G E hr =>
    (ss_cons (st_set (i := 4) sc_law_row.nd rfl (by first | exact Or.inl rfl | exact Or.inr rfl) (d_op o_mod (d_w 0) (d_S d_int)))
    (ss_cons (st_if (t_cmp (o_eq hr.units) (d_w 1) (d_S d_int) (nomark _)) (ss_one (st_ret (d_ix (d_NS (d_lst (a_consE (d_tup (a_consE d_str (a_consE (d_op o_mod (d_S (d_op o_div (d_w 0) (d_S d_int))) (d_w 3)) a_nil))) (a_consE (d_tup (a_consE d_str a_nil)) a_nil)))) (d_S (d_op o_div (d_w 4) (d_S d_int)))))) ss_nil)
    (ss_cons (st_set (i := 5) sc_law_row.nd rfl (by first | exact Or.inl rfl | exact Or.inr rfl) (d_op o_mod (d_S (d_op o_div (d_w 0) (d_S d_int))) (d_w 1)))
    (ss_cons (st_if (t_cmp o_lt (d_w 4) (d_S d_int) (nomark _)) (ss_one (st_ret (d_tup (a_consE d_str (a_consE (d_v 5) (a_consE (d_op o_mod (d_S (d_op o_div (d_w 0) (d_S d_int))) (d_S (d_op o_add (d_w 2) (d_S d_int)))) a_nil)))))) ss_nil)
    (ss_cons (st_if (t_cmp o_lt (d_w 4) (d_S d_int) (nomark _)) (ss_one (st_ret (d_tup (a_consE d_str (a_consE (d_v 5) a_nil))))) ss_nil)
    (ss_cons (st_if (t_cmp (o_eq hr.units) (d_w 4) (d_S d_int) (nomark _)) (ss_one (st_ret (d_tup (a_consE d_str (a_consE (d_v 5) (a_consE (d_op o_mod (d_S (d_op o_div (d_w 0) (d_S d_int))) (d_w 1)) a_nil)))))) ss_nil)
    (ss_cons (st_if (t_cmp o_lt (d_w 4) (d_S d_int) (nomark _)) (ss_one (st_ret (d_tup (a_consE d_str (a_consE (d_v 5) a_nil))))) ss_nil)
    (ss_cons (st_if (t_cmp (o_eq hr.units) (d_w 4) (d_S d_int) (nomark _)) (ss_one (st_ret (d_ix (d_NS (d_lst (a_consE (d_tup (a_consE d_str (a_consE (d_op o_mod (d_S (d_op o_div (d_w 0) (d_S d_int))) (d_w 3)) a_nil))) (a_consE (d_tup (a_consE d_str a_nil)) a_nil)))) (d_S (d_op o_mod (d_S (d_op o_div (d_w 0) (d_S d_int))) (d_S d_int)))))) ss_nil)
    (ss_one (st_ret (d_tup (a_consE d_str (a_consE (d_v 5) (a_consE (d_op o_mod (d_S (d_op o_div (d_w 0) (d_S d_int))) (d_w 3)) a_nil))))))))))))))
/-! ### law_program -/
abbrev s_law_program : Stmt := topS 40
def b_law_program : FS := (sSeq (sSet 1 (eCall 1 m_law_next (aCons (eV 0) aNil)))
  (sSeq (sSet 2 (eB gIx (eLst (aCons (eC (.int 1)) (aCons (eC (.int 2)) (aCons (eC (.int 1)) (aCons (eC (.int 2)) (aCons (eC (.int 0)) (aCons (eC (.int 3)) aNil))))))) (eB gMod (eW 1) (eC (.int 6)))))
  (sSeq (sSet 3 (eB gAdd (eC (.int 1)) (eB gMod (eB gDiv (eW 1) (eC (.int 6))) (eB gIx (eLst (aCons (eC (.int 4)) (aCons (eC (.int 4)) (aCons (eC (.int 4)) (aCons (eC (.int 2)) aNil))))) (eW 2)))))
  (sSeq (sSet 4 (eB gAdd (eB gAdd (eC (.int 1)) (eB gMod (eB gDiv (eW 1) (eC (.int 24))) (eC (.int 7)))) (eB gMul (eC (.int 9)) (eU gInt (eB gEq (eB gMod (eB gDiv (eW 1) (eC (.int 200))) (eC (.int 8))) (eC (.int 3)))))))
  (sSeq (sNew 5 (eLst aNil))
  (sSeq (sFor (iRg (eV 4)) (.nm 6) (sSeq (sSet 1 (eCall 1 m_law_next (aCons (eB gAdd (eW 1) (eW 6)) aNil)))
  (sApp 5 (eCall 4 m_law_row (aCons (eV 1) (aCons (eV 2) (aCons (eV 3) (aCons (eV 4) aNil))))))))
  (sSeq (sIf (eB (gIn true) (eB gIx (eB gIx (eW 5) (eNeg (eC (.int 1)))) (eC (.int 0))) (eTup (aCons (eC (.str "go")) (aCons (eC (.str "stop")) aNil)))) (sPut 5 (eNeg (eC (.int 1))) (eB gIx (eLst (aCons (eTup (aCons (eC (.str "go")) (aCons (eB gMod (eB gDiv (eW 1) (eC (.int 7))) (eW 4)) aNil))) (aCons (eTup (aCons (eC (.str "stop")) aNil)) aNil))) (eB gDiv (eB gMod (eB gDiv (eW 1) (eC (.int 1000))) (eC (.int 3))) (eC (.int 2))))) sNx)
  (sFrz 5 (sRet (eTup (aCons (eV 2) (aCons (eV 3) (aCons (eV 5) aNil)))))))))))))
def m_law_program : Mir := fDef 7 b_law_program
theorem sc_law_program : FnScope ["_law_cell", "_law_seed", "_law_boxes", "_law_most", "_law_many", "_law_rows", "_law_k"] ["_law_cell"] (defScope s_law_program) := ⟨rfl, rfl, rfl, by decide +kernel, rfl, by decide +kernel, by decide +kernel⟩
theorem ok_law_program (T : Tx w K mg) (A : At K mg "_law_program" s_law_program ["_law_cell"]) (O_law_next : Ok P0 w K mg base 1 "_law_next" 1 m_law_next) (O_law_row : Ok P0 w K mg base 1 "_law_row" 4 m_law_row) : Ok P0 w K mg base 2 "_law_program" 1 m_law_program :=
  okO (N := ["_law_cell", "_law_seed", "_law_boxes", "_law_most", "_law_many", "_law_rows", "_law_k"]) (fs := b_law_program) A sc_law_program rfl rfl fun f cdv A outer s H G E hr =>
    (ss_cons (st_set (i := 1) sc_law_program.nd rfl (by first | exact Or.inl rfl | exact Or.inr rfl) (d_callO O_law_next (hr.mono (by decide)) (by rfl) (tk_of (takes_of rfl rfl rfl rfl)) (a_consE (d_v 0) a_nil)))
    (ss_cons (st_set (i := 2) sc_law_program.nd rfl (by first | exact Or.inl rfl | exact Or.inr rfl) (d_ix (d_NS (d_lst (a_consE d_int (a_consE d_int (a_consE d_int (a_consE d_int (a_consE d_int (a_consE d_int a_nil)))))))) (d_S (d_op o_mod (d_w 1) (d_S d_int)))))
    (ss_cons (st_set (i := 3) sc_law_program.nd rfl (by first | exact Or.inl rfl | exact Or.inr rfl) (d_op o_add (d_S d_int) (d_S (d_op o_mod (d_S (d_op o_div (d_w 1) (d_S d_int))) (d_S (d_ix (d_NS (d_lst (a_consE d_int (a_consE d_int (a_consE d_int (a_consE d_int a_nil)))))) (d_w 2)))))))
    (ss_cons (st_set (i := 4) sc_law_program.nd rfl (by first | exact Or.inl rfl | exact Or.inr rfl) (d_op o_add (d_S (d_op o_add (d_S d_int) (d_S (d_op o_mod (d_S (d_op o_div (d_w 1) (d_S d_int))) (d_S d_int))))) (d_S (d_op o_mul (d_S d_int) (d_S (d_cT c_int (by rfl) T.n_int (by decide +kernel) (d_S (d_cmp (o_eq hr.units) (d_S (d_op o_mod (d_S (d_op o_div (d_w 1) (d_S d_int))) (d_S d_int))) (d_S d_int) (nomark _)))))))))
    (ss_cons (st_new (i := 5) sc_law_program.nd rfl (by first | exact Or.inl rfl | exact Or.inr rfl) (d_lst a_nil))
    (ss_cons (st_for (passes_of rfl) rfl (i_rg (by rfl) T.n_range (d_v 4)) (pg_name (i := 6) sc_law_program.nd rfl (by first | exact Or.inl rfl | exact Or.inr rfl)) (ss_cons (st_set (i := 1) sc_law_program.nd rfl (by first | exact Or.inl rfl | exact Or.inr rfl) (d_callO O_law_next (hr.mono (by decide)) (by rfl) (tk_of (takes_of rfl rfl rfl rfl)) (a_consE (d_op o_add (d_w 1) (d_w 6)) a_nil)))
    (ss_one (st_app 5 rfl (by first | exact Or.inl rfl | exact Or.inr (Or.inl rfl)) (d_callO O_law_row (hr.mono (by decide)) (by rfl) (tk_of (takes_of rfl rfl rfl rfl)) (a_consE (d_v 1) (a_consE (d_v 2) (a_consE (d_v 3) (a_consE (d_v 4) a_nil))))) (pe_bm PySem.F.plainAttrs_list PySem.F.slot_list_append PySem.F.type_list_append mt_append (pv 5) (pa_cons (d_callO O_law_row (hr.mono (by decide)) (by rfl) (tk_of (takes_of rfl rfl rfl rfl)) (a_consE (d_v 1) (a_consE (d_v 2) (a_consE (d_v 3) (a_consE (d_v 4) a_nil))))) pa_nil))))))
    (ss_cons (st_if (t_cmp o_notIn (d_S (d_ix (d_S (d_ix (d_w 5) (d_S (d_neg (d_S d_int))))) (d_S d_int))) (d_S (d_tup (a_consE d_str (a_consE d_str a_nil)))) (by rfl)) (ss_one (st_put 5 rfl (by first | exact Or.inl rfl | exact Or.inr (Or.inl rfl)) (by decide) (by decide) (d_ix (d_NS (d_lst (a_consE (d_tup (a_consE d_str (a_consE (d_op o_mod (d_S (d_op o_div (d_w 1) (d_S d_int))) (d_w 4)) a_nil))) (a_consE (d_tup (a_consE d_str a_nil)) a_nil)))) (d_S (d_op o_div (d_S (d_op o_mod (d_S (d_op o_div (d_w 1) (d_S d_int))) (d_S d_int))) (d_S d_int)))) (d_neg (d_S d_int)) (pg_sub (pv 5) (d_neg (d_S d_int)) set_list))) ss_nil)
    (ss_one (st_frz 5 (st_ret (d_tup (a_consE (d_v 2) (a_consE (d_v 3) (a_consE (d_v 5) a_nil))))))))))))))
/-! ### law_states -/
abbrev s_law_states : Stmt := topS 52
def b_law_states : FS := (sSeq (sSet 1 (eU gLen (eB gIx (eW 0) (eC (.int 2)))))
  (sSeq (sFor (iRg (eB gIx (eW 0) (eC (.int 0)))) (.nm 2) (sSet 1 (eB gMul (eW 1) (eB gAdd (eB gIx (eW 0) (eC (.int 1))) (eC (.int 1))))))
  (sRet (eV 1))))
def m_law_states : Mir := fDef 3 b_law_states
theorem sc_law_states : FnScope ["_law_program_here", "_law_many", "_law_box"] ["_law_program_here"] (defScope s_law_states) := ⟨rfl, rfl, rfl, by decide +kernel, rfl, by decide +kernel, by decide +kernel⟩
theorem ok_law_states (T : Tx w K mg) (A : At K mg "_law_states" s_law_states ["_law_program_here"]) : Ok P0 w K mg base 1 "_law_states" 1 m_law_states :=
  okO (N := ["_law_program_here", "_law_many", "_law_box"]) (fs := b_law_states) A sc_law_states rfl rfl fun f cdv A outer s H G E hr =>
    (ss_cons (st_set (i := 1) sc_law_states.nd rfl (by first | exact Or.inl rfl | exact Or.inr rfl) (d_cB c_len (by rfl) T.n_len PySem.boot_len (d_S (d_ix (d_w 0) (d_S d_int)))))
    (ss_cons (st_for (passes_of rfl) rfl (i_rg (by rfl) T.n_range (d_ix (d_w 0) (d_S d_int))) (pg_name (i := 2) sc_law_states.nd rfl (by first | exact Or.inl rfl | exact Or.inr rfl)) (ss_one (st_set (i := 1) sc_law_states.nd rfl (by first | exact Or.inl rfl | exact Or.inr rfl) (d_op o_mul (d_w 1) (d_S (d_op o_add (d_S (d_ix (d_w 0) (d_S d_int))) (d_S d_int)))))))
    (ss_one (st_ret (d_v 1)))))
/-! ### law_right -/
abbrev s_law_right : Stmt := topS 54
def b_law_right : FS := (sSeq (sIf (eOr (eNot (eU (gIsi "tuple") (eW 2))) (eV 3)) (sRet (eB gEq (eW 2) (eTup (aCons (eC (.str "safe")) aNil)))) sNx)
  (sSeq (sIf (eOr (eB gNe (eU gLen (eW 2)) (eC (.int 3))) (eOr (eB (gInK true) (eB gIx (eW 2) (eC (.int 1))) (eCall 1 m_law_begins (aCons (eV 0) aNil))) (eNot (eU (gIsi "int") (eB gIx (eW 2) (eC (.int 2))))))) (sRet (eC (.bl false))) sNx)
  (sSeq (sIf (eOr (eNot (eCall 1 m_law_plain (aCons (eV 2) aNil))) (eNot (eCh gLe gLt (eC (.int 0)) (eB gIx (eW 2) (eC (.int 2))) (eCall 1 m_law_states (aCons (eV 0) aNil))))) (sRet (eC (.bl false))) sNx)
  (sSeq (sSet 4 (eTup (aCons (eC (.int 0)) (aCons (eB gIx (eW 2) (eC (.int 1))) aNil))))
  (sSeq (sFor (iRg (eB gIx (eW 2) (eC (.int 2)))) (.nm 5) (sIf (eB gNotN' (eW 4) (eC .non)) (sSet 4 (eB gIx (eCall 2 m_law_step (aCons (eV 0) (aCons (eV 4) aNil))) (eC (.int 0)))) sNx))
  (sSeq (sIf (eOr (eB gIsN' (eW 4) (eC .non)) (eB (gIn true) (eB gIx (eW 2) (eC (.int 0))) (eTup (aCons (eC (.str "stuck")) (aCons (eC (.str "missed")) aNil))))) (sRet (eC (.bl false))) sNx)
  (sRet (eB gEq (eB gIx (eCall 3 m_law_met (aCons (eV 0) (aCons (eV 1) (aCons (eV 4) aNil)))) (eC (.int 0))) (eB gIx (eW 2) (eC (.int 0)))))))))))
def m_law_right : Mir := fDef 6 b_law_right
theorem sc_law_right : FnScope ["_law_one", "_law_rules_here", "_law_found", "_law_is_safe_here", "_law_state", "_law_turn"] ["_law_one", "_law_rules_here", "_law_found", "_law_is_safe_here"] (defScope s_law_right) := ⟨rfl, rfl, rfl, by decide +kernel, rfl, by decide +kernel, by decide +kernel⟩
theorem ok_law_right (T : Tx w K mg) (A : At K mg "_law_right" s_law_right ["_law_one", "_law_rules_here", "_law_found", "_law_is_safe_here"]) (O_law_begins : Ok P0 w K mg base 1 "_law_begins" 1 m_law_begins) (O_law_met : Ok P0 w K mg base 3 "_law_met" 3 m_law_met) (O_law_plain : Ok P0 w K mg base 9 "_law_plain" 1 m_law_plain) (O_law_states : Ok P0 w K mg base 1 "_law_states" 1 m_law_states) (O_law_step : Ok P0 w K mg base 2 "_law_step" 2 m_law_step) : Ok P0 w K mg base 10 "_law_right" 4 m_law_right :=
  okO (N := ["_law_one", "_law_rules_here", "_law_found", "_law_is_safe_here", "_law_state", "_law_turn"]) (fs := b_law_right) A sc_law_right rfl rfl fun f cdv A outer s H G E hr =>
    (ss_cons (st_if (t_w (w_or (t_not (t_val (d_isi (by rfl) T.n_isinstance (d_w 2) (by rfl) T.n_tuple (by decide +kernel)))) (w_or1 (t_val (d_v 3))))) (ss_one (st_ret (d_cmp (o_eq hr.units) (d_w 2) (d_S (d_tup (a_consE d_str a_nil))) (nomark _)))) ss_nil)
    (ss_cons (st_if (t_w (w_or (t_cmp (o_ne hr.units) (d_S (d_cB c_len (by rfl) T.n_len PySem.boot_len (d_w 2))) (d_S d_int) (nomark _)) (w_or (t_cmp (o_ninK hr.units) (d_S (d_ix (d_w 2) (d_S d_int))) (d_S (d_callO O_law_begins (hr.mono (by decide)) (by rfl) (tk_of (takes_of rfl rfl rfl rfl)) (a_consE (d_v 0) a_nil))) (by rfl)) (w_or1 (t_not (t_val (d_isi (by rfl) T.n_isinstance (d_S (d_ix (d_w 2) (d_S d_int))) (by rfl) T.n_int (by decide +kernel)))))))) (ss_one (st_ret d_bl)) ss_nil)
    (ss_cons (st_if (t_w (w_or (t_not (t_val (d_callO O_law_plain (hr.mono (by decide)) (by rfl) (tk_of (takes_of rfl rfl rfl rfl)) (a_consE (d_v 2) a_nil)))) (w_or1 (t_not (t_ch o_le o_lt (d_S d_int) (d_S (d_ix (d_w 2) (d_S d_int))) (d_S (d_callO O_law_states (hr.mono (by decide)) (by rfl) (tk_of (takes_of rfl rfl rfl rfl)) (a_consE (d_v 0) a_nil)))))))) (ss_one (st_ret d_bl)) ss_nil)
    (ss_cons (st_set (i := 4) sc_law_right.nd rfl (by first | exact Or.inl rfl | exact Or.inr rfl) (d_tup (a_consE d_int (a_consE (d_ix (d_w 2) (d_S d_int)) a_nil))))
    (ss_cons (st_for (passes_of rfl) rfl (i_rg (by rfl) T.n_range (d_ix (d_w 2) (d_S d_int))) (pg_name (i := 5) sc_law_right.nd rfl (by first | exact Or.inl rfl | exact Or.inr rfl)) (ss_one (st_if (t_cmp o_notN (d_w 4) (d_S d_non) (nomark _)) (ss_one (st_set (i := 4) sc_law_right.nd rfl (by first | exact Or.inl rfl | exact Or.inr rfl) (d_ix (d_S (d_callO O_law_step (hr.mono (by decide)) (by rfl) (tk_of (takes_of rfl rfl rfl rfl)) (a_consE (d_v 0) (a_consE (d_v 4) a_nil)))) (d_S d_int)))) ss_nil)))
    (ss_cons (st_if (t_w (w_or (t_cmp o_isN (d_w 4) (d_S d_non) (nomark _)) (w_or1 (t_cmp o_notIn (d_S (d_ix (d_w 2) (d_S d_int))) (d_S (d_tup (a_consE d_str (a_consE d_str a_nil)))) (by rfl))))) (ss_one (st_ret d_bl)) ss_nil)
    (ss_one (st_ret (d_cmp (o_eq hr.units) (d_S (d_ix (d_S (d_callO O_law_met (hr.mono (by decide)) (by rfl) (tk_of (takes_of rfl rfl rfl rfl)) (a_consE (d_v 0) (a_consE (d_v 1) (a_consE (d_v 4) a_nil))))) (d_S d_int))) (d_S (d_ix (d_w 2) (d_S d_int))) (nomark _))))))))))
/-! ### law_rules -/
abbrev s_law_rules : Stmt := topS 48
def b_law_rules : FS := (sSeq (sNew 1 (eC (.dic [] [])))
  (sSeq (sFor (iIt (eV 0)) (.nm 2) (sDkPut 1 (eB gIx (eW 2) (eC (.int 0))) (eB gIx (eW 2) (eC (.int 2)))))
  (sFrz 1 (sRet (eV 1)))))
def m_law_rules : Mir := fDef 3 b_law_rules
theorem sc_law_rules : FnScope ["_law_places_here", "_law_rules_here", "_law_place"] ["_law_places_here"] (defScope s_law_rules) := ⟨rfl, rfl, rfl, by decide +kernel, rfl, by decide +kernel, by decide +kernel⟩
theorem ok_law_rules (T : Tx w K mg) (A : At K mg "_law_rules" s_law_rules ["_law_places_here"]) : Ok P0 w K mg base 1 "_law_rules" 1 m_law_rules :=
  okO (N := ["_law_places_here", "_law_rules_here", "_law_place"]) (fs := b_law_rules) A sc_law_rules rfl rfl fun f cdv A outer s H G E hr =>
    (ss_cons (st_new (i := 1) sc_law_rules.nd rfl (by first | exact Or.inl rfl | exact Or.inr rfl) d_dic0)
    (ss_cons (st_for (passes_of rfl) rfl (i_seq (d_v 0)) (pg_name (i := 2) sc_law_rules.nd rfl (by first | exact Or.inl rfl | exact Or.inr rfl)) (ss_one (st_dkPut (i := 1) hr.units (d_ix (d_w 2) (d_S d_int)) (d_ix (d_w 2) (d_S d_int)) rfl (by first | exact Or.inl rfl | exact Or.inr (Or.inl rfl) | exact Or.inr (Or.inr rfl)))))
    (ss_one (st_frz 1 (st_ret (d_v 1))))))
/-! ### whole -/
abbrev s_whole : Stmt := topS 14
def b_whole : FS := (sRet (eAnd (eB (gTyIs false) (eU gType (eW 0)) (eC (.ty "int"))) (eCh gLe gLe (eW 1) (eW 0) (eW 2))))
def m_whole : Mir := fDef 3 b_whole
theorem sc_whole : FnScope ["thing", "low", "high"] ["thing", "low", "high"] (defScope s_whole) := ⟨rfl, rfl, rfl, by decide +kernel, rfl, by decide +kernel, by decide +kernel⟩
theorem ok_whole (T : Tx w K mg) (A : At K mg "whole" s_whole ["thing", "low", "high"]) : Ok P0 w K mg base 1 "whole" 3 m_whole :=
  okO (N := ["thing", "low", "high"]) (fs := b_whole) A sc_whole rfl rfl fun f cdv A outer s H G E hr =>
    (ss_one (st_ret (d_and (d_cmp o_tyIs (d_S (d_cT c_type (by rfl) T.n_type (by decide +kernel) (d_w 0))) (d_S (d_ty (by rfl) T.n_int (by decide +kernel))) (nomark _)) (d_one (d_ch o_le o_le (d_w 1) (d_w 0) (d_w 2))))))
/-! ### is_row -/
abbrev s_is_row : Stmt := topS 15
def b_is_row : FS := (sSeq (sIf (eOr (eB (gTyIs true) (eU gType (eW 0)) (eC (.ty "tuple"))) (eB gEq (eU gLen (eW 0)) (eC (.int 0)))) (sRet (eC (.bl false))) sNx)
  (sSeq (sSet 4 (eB gIx (eW 0) (eC (.int 0))))
  (sSeq (sIf (eOr (eB (gTyIs true) (eU gType (eW 4)) (eC (.ty "str"))) (eU (gGIn true tbl_PARTS miss_PARTS) (eW 4))) (sRet (eC (.bl false))) sNx)
  (sSeq (sSet 5 (eU (gGGet tbl_PARTS) (eW 4)))
  (sSeq (sIf (eB gNe (eU gLen (eW 0)) (eB gAdd (eC (.int 1)) (eU gLen (eW 5)))) (sRet (eC (.bl false))) sNx)
  (sSeq (sSet 6 (eDisp [("box", (eB gSubI (eW 1) (eC (.int 1)))), ("number", (eV 2)), ("row", (eB gSubI (eW 3) (eC (.int 1))))]))
  (sRet (eU gAll (eComp (iEn (eV 5)) (.tp [7, 8]) [7, 8] (eC (.bl true)) (eCall 3 m_whole (aCons (eB gIx (eW 0) (eB gAdd (eC (.int 1)) (eW 7))) (aCons (eC (.int 0)) (aCons (eB gDGet (eW 6) (eW 8)) aNil)))))))))))))
def m_is_row : Mir := fDef 9 b_is_row
theorem sc_is_row : FnScope ["thing", "boxes", "most", "many", "kind", "parts", "highest", "at", "part"] ["thing", "boxes", "most", "many"] (defScope s_is_row) := ⟨rfl, rfl, rfl, by decide +kernel, rfl, by decide +kernel, by decide +kernel⟩
theorem ok_is_row (T : Tx w K mg) (A : At K mg "is_row" s_is_row ["thing", "boxes", "most", "many"]) (O_whole : Ok P0 w K mg base 1 "whole" 3 m_whole) : Ok P0 w K mg base 2 "is_row" 4 m_is_row :=
  okO (N := ["thing", "boxes", "most", "many", "kind", "parts", "highest", "at", "part"]) (fs := b_is_row) A sc_is_row rfl rfl fun f cdv A outer s H G E hr =>
    (ss_cons (st_if (t_w (w_or (t_cmp o_tyNot (d_S (d_cT c_type (by rfl) T.n_type (by decide +kernel) (d_w 0))) (d_S (d_ty (by rfl) T.n_tuple (by decide +kernel))) (nomark _)) (w_or1 (t_cmp (o_eq hr.units) (d_S (d_cB c_len (by rfl) T.n_len PySem.boot_len (d_w 0))) (d_S d_int) (nomark _))))) (ss_one (st_ret d_bl)) ss_nil)
    (ss_cons (st_set (i := 4) sc_is_row.nd rfl (by first | exact Or.inl rfl | exact Or.inr rfl) (d_ix (d_w 0) (d_S d_int)))
    (ss_cons (st_if (t_w (w_or (t_cmp o_tyNot (d_S (d_cT c_type (by rfl) T.n_type (by decide +kernel) (d_w 4))) (d_S (d_ty (by rfl) T.n_str (by decide +kernel))) (nomark _)) (w_or1 (t_gninO T.g_PARTS (by rfl) (d_w 4) (by rfl))))) (ss_one (st_ret d_bl)) ss_nil)
    (ss_cons (st_set (i := 5) sc_is_row.nd rfl (by first | exact Or.inl rfl | exact Or.inr rfl) (d_ggetO T.g_PARTS (by rfl) (d_w 4)))
    (ss_cons (st_if (t_cmp (o_ne hr.units) (d_S (d_cB c_len (by rfl) T.n_len PySem.boot_len (d_w 0))) (d_S (d_op o_add (d_S d_int) (d_S (d_cB c_len (by rfl) T.n_len PySem.boot_len (d_w 5))))) (nomark _)) (ss_one (st_ret d_bl)) ss_nil)
    (ss_cons (st_set (i := 6) sc_is_row.nd rfl (by first | exact Or.inl rfl | exact Or.inr rfl) (d_NE (d_disp (p_cons (d_op o_sub (d_w 1) (d_S d_int)) (p_cons (d_v 2) (p_cons (d_op o_sub (d_w 3) (d_S d_int)) p_nil))) rfl rfl (by intro z; cases z) (by decide))))
    (ss_one (st_ret (d_cB (c_all rfl) (by rfl) T.n_all (by decide +kernel) (d_NS (d_lc (own := [("at", 7), ("part", 8)]) rfl sc_is_row.nd (i_en (by rfl) T.n_enumerate (d_v 5)) (blkOk_by (own := [("at", 7), ("part", 8)]) (N := ["thing", "boxes", "most", "many", "kind", "parts", "highest", "at", "part"]) (sc := defScope s_is_row) (by decide +kernel)) (by decide) (fun _ _ _ _ _ => (asDG (.tp [7, 8]) (pg_tup rfl (pgs_cons (pg_name (i := 7) sc_is_row.nd rfl (by first | exact Or.inl rfl | exact Or.inr rfl)) (pgs_cons (pg_name (i := 8) sc_is_row.nd rfl (by first | exact Or.inl rfl | exact Or.inr rfl)) pgs_nil))))) (fun _ _ _ _ _ => ts_nil) (fun _ _ _ _ _ => (d_callO O_whole (hr.mono (by decide)) (by rfl) tk0 (a_consE (d_ix (d_w 0) (d_S (d_op o_add (d_S d_int) (d_w 7)))) (a_consE d_int (a_consE (d_dget (hu_of hr) (d_w 6) (d_w 8)) a_nil))))))))))))))))
/-! ### is_program -/
abbrev s_is_program : Stmt := topS 16
def b_is_program : FS := (sSeq (sIf (eOr (eB (gTyIs true) (eU gType (eW 0)) (eC (.ty "tuple"))) (eB gNe (eU gLen (eW 0)) (eC (.int 3)))) (sRet (eC (.bl false))) sNx)
  (sSeq (sAsg (.tp [1, 2, 3]) (eV 0))
  (sSeq (sIf (eOr (eNot (eCall 3 m_whole (aCons (eV 1) (aCons (eC (.int 0)) (aCons (eC (.int 3)) aNil))))) (eNot (eCall 3 m_whole (aCons (eV 2) (aCons (eC (.int 1)) (aCons (eC (.int 4)) aNil)))))) (sRet (eC (.bl false))) sNx)
  (sSeq (sIf (eOr (eB (gTyIs true) (eU gType (eW 3)) (eC (.ty "list"))) (eNot (eCh gLe gLe (eC (.int 1)) (eU gLen (eW 3)) (eC (.int 20))))) (sRet (eC (.bl false))) sNx)
  (sSeq (sIf (eNot (eU gAll (eComp (iIt (eV 3)) (.nm 4) [4] (eC (.bl true)) (eCall 4 m_is_row (aCons (eV 4) (aCons (eV 1) (aCons (eV 2) (aCons (eU gLen (eW 3)) aNil)))))))) (sRet (eC (.bl false))) sNx)
  (sRet (eB (gIn false) (eB gIx (eB gIx (eW 3) (eNeg (eC (.int 1)))) (eC (.int 0))) (eTup (aCons (eC (.str "go")) (aCons (eC (.str "stop")) aNil))))))))))
def m_is_program : Mir := fDef 5 b_is_program
theorem sc_is_program : FnScope ["thing", "boxes", "most", "rows", "row"] ["thing"] (defScope s_is_program) := ⟨rfl, rfl, rfl, by decide +kernel, rfl, by decide +kernel, by decide +kernel⟩
theorem ok_is_program (T : Tx w K mg) (A : At K mg "is_program" s_is_program ["thing"]) (O_is_row : Ok P0 w K mg base 2 "is_row" 4 m_is_row) (O_whole : Ok P0 w K mg base 1 "whole" 3 m_whole) : Ok P0 w K mg base 3 "is_program" 1 m_is_program :=
  okO (N := ["thing", "boxes", "most", "rows", "row"]) (fs := b_is_program) A sc_is_program rfl rfl fun f cdv A outer s H G E hr =>
    (ss_cons (st_if (t_w (w_or (t_cmp o_tyNot (d_S (d_cT c_type (by rfl) T.n_type (by decide +kernel) (d_w 0))) (d_S (d_ty (by rfl) T.n_tuple (by decide +kernel))) (nomark _)) (w_or1 (t_cmp (o_ne hr.units) (d_S (d_cB c_len (by rfl) T.n_len PySem.boot_len (d_w 0))) (d_S d_int) (nomark _))))) (ss_one (st_ret d_bl)) ss_nil)
    (ss_cons (st_asg (d_v 0) (pg_tup rfl (pgs_cons (pg_name (i := 1) sc_is_program.nd rfl (by first | exact Or.inl rfl | exact Or.inr rfl)) (pgs_cons (pg_name (i := 2) sc_is_program.nd rfl (by first | exact Or.inl rfl | exact Or.inr rfl)) (pgs_cons (pg_name (i := 3) sc_is_program.nd rfl (by first | exact Or.inl rfl | exact Or.inr rfl)) pgs_nil)))))
    (ss_cons (st_if (t_w (w_or (t_not (t_val (d_callO O_whole (hr.mono (by decide)) (by rfl) (tk_of (takes_of rfl rfl rfl rfl)) (a_consE (d_v 1) (a_consE d_int (a_consE (d_gi T.i_MOST_BOXES (by rfl)) a_nil)))))) (w_or1 (t_not (t_val (d_callO O_whole (hr.mono (by decide)) (by rfl) (tk_of (takes_of rfl rfl rfl rfl)) (a_consE (d_v 2) (a_consE d_int (a_consE (d_gi T.i_HIGHEST_MOST (by rfl)) a_nil))))))))) (ss_one (st_ret d_bl)) ss_nil)
    (ss_cons (st_if (t_w (w_or (t_cmp o_tyNot (d_S (d_cT c_type (by rfl) T.n_type (by decide +kernel) (d_w 3))) (d_S (d_ty (by rfl) T.n_list (by decide +kernel))) (nomark _)) (w_or1 (t_not (t_ch o_le o_le (d_S d_int) (d_S (d_cB c_len (by rfl) T.n_len PySem.boot_len (d_w 3))) (d_S (d_gi T.i_MOST_ROWS (by rfl)))))))) (ss_one (st_ret d_bl)) ss_nil)
    (ss_cons (st_if (t_not (t_val (d_cB (c_all rfl) (by rfl) T.n_all (by decide +kernel) (d_NS (d_lc (own := [("row", 4)]) rfl sc_is_program.nd (i_seq (d_v 3)) (blkOk_by (own := [("row", 4)]) (N := ["thing", "boxes", "most", "rows", "row"]) (sc := defScope s_is_program) (by decide +kernel)) (by decide) (fun _ _ _ _ _ => (asDG (.nm 4) (pg_name (i := 4) sc_is_program.nd rfl (by first | exact Or.inl rfl | exact Or.inr rfl)))) (fun _ _ _ _ _ => ts_nil) (fun _ _ _ _ _ => (d_callO O_is_row (hr.mono (by decide)) (by rfl) tk0 (a_consE (d_v 4) (a_consE (d_v 1) (a_consE (d_v 2) (a_consE (d_cB c_len (by rfl) T.n_len PySem.boot_len (d_w 3)) a_nil))))))))))) (ss_one (st_ret d_bl)) ss_nil)
    (ss_one (st_ret (d_cmp o_in (d_S (d_ix (d_S (d_ix (d_w 3) (d_S (d_neg (d_S d_int))))) (d_S d_int))) (d_S (d_tup (a_consE d_str (a_consE d_str a_nil)))) (by rfl)))))))))
/-! ### need_program -/
abbrev s_need_program : Stmt := topS 17
def b_need_program : FS := (sSeq (sIf (eNot (eCall 1 m_is_program (aCons (eV 0) aNil))) (sRaise "BadProgram") sNx)
  (sRet (eV 0)))
def m_need_program : Mir := fDef 1 b_need_program
theorem sc_need_program : FnScope ["thing"] ["thing"] (defScope s_need_program) := ⟨rfl, rfl, rfl, by decide +kernel, rfl, by decide +kernel, by decide +kernel⟩
theorem ok_need_program (T : Tx w K mg) (A : At K mg "need_program" s_need_program ["thing"]) (O_is_program : Ok P0 w K mg base 3 "is_program" 1 m_is_program) : Ok P0 w K mg base 4 "need_program" 1 m_need_program :=
  okO (N := ["thing"]) (fs := b_need_program) A sc_need_program rfl rfl fun f cdv A outer s H G E hr =>
    (ss_cons (st_if (t_not (t_val (d_callO O_is_program (hr.mono (by decide)) (by rfl) (tk_of (takes_of rfl rfl rfl rfl)) (a_consE (d_v 0) a_nil)))) (ss_one (st_raiseO T.r_BadProgram rfl (takes_of rfl rfl rfl rfl) (by rfl))) ss_nil)
    (ss_one (st_ret (d_v 0))))
/-! ### begins -/
abbrev s_begins : Stmt := topS 32
def b_begins : FS := (sSeq (sAsg (.tp [1, 2, 3]) (eCall 1 m_need_program (aCons (eV 0) aNil)))
  (sSeq (sNew 4 (eLst (aCons (eTup aNil) aNil)))
  (sSeq (sFor (iRg (eV 1)) (.nm 3) (sFrz 4 (sNew 4 (eComp2 (iIt (eV 4)) (.nm 5) [5, 6] (iRg (eB gAdd (eW 2) (eC (.int 1)))) (.nm 6) [6] (eB gAdd (eW 5) (eTup (aCons (eV 6) aNil)))))))
  (sRetO 4))))
def m_begins : Mir := fDefN 7 b_begins
theorem sc_begins : FnScope ["program", "boxes", "most", "_", "found", "numbers", "number"] ["program"] (defScope s_begins) := ⟨rfl, rfl, rfl, by decide +kernel, rfl, by decide +kernel, by decide +kernel⟩
theorem ok_begins (T : Tx w K mg) (A : At K mg "begins" s_begins ["program"]) (O_need_program : Ok P0 w K mg base 4 "need_program" 1 m_need_program) : OkN P0 w K mg base 5 "begins" 1 m_begins :=
  okON (N := ["program", "boxes", "most", "_", "found", "numbers", "number"]) (fs := b_begins) A sc_begins rfl rfl fun f cdv A outer s H G E hr =>
    (ss_cons (st_asg (d_callO O_need_program (hr.mono (by decide)) (by rfl) (tk_of (takes_of rfl rfl rfl rfl)) (a_consE (d_v 0) a_nil)) (pg_tup rfl (pgs_cons (pg_name (i := 1) sc_begins.nd rfl (by first | exact Or.inl rfl | exact Or.inr rfl)) (pgs_cons (pg_name (i := 2) sc_begins.nd rfl (by first | exact Or.inl rfl | exact Or.inr rfl)) (pgs_cons (pg_name (i := 3) sc_begins.nd rfl (by first | exact Or.inl rfl | exact Or.inr rfl)) pgs_nil)))))
    (ss_cons (st_new (i := 4) sc_begins.nd rfl (by first | exact Or.inl rfl | exact Or.inr rfl) (d_lst (a_consE (d_tup a_nil) a_nil)))
    (ss_cons (st_for (passes_of rfl) rfl (i_rg (by rfl) T.n_range (d_v 1)) (pg_name (i := 3) sc_begins.nd rfl (by first | exact Or.inl rfl | exact Or.inr rfl)) (ss_one (st_frz 4 (st_newLc2 (own := [("numbers", 5), ("number", 6)]) (i := 4) rfl sc_begins.nd rfl rfl (sw_true rfl rfl rfl (by decide +kernel)) (i_seq (d_v 4)) (blkOk_by (own := [("numbers", 5), ("number", 6)]) (N := ["program", "boxes", "most", "_", "found", "numbers", "number"]) (sc := defScope s_begins) (by decide +kernel)) (vs1 := [6]) (by decide) (by decide) (by decide) (fun _ _ _ _ _ => (asDG (.nm 5) (pg_name (i := 5) sc_begins.nd rfl (by first | exact Or.inl rfl | exact Or.inr rfl)))) (fun _ _ _ _ _ => (i_rg (by rfl) T.n_range (d_op o_add (d_w 2) (d_S d_int)))) (fun _ _ _ _ _ => (asDG (.nm 6) (pg_name (i := 6) sc_begins.nd rfl (by first | exact Or.inl rfl | exact Or.inr rfl)))) (fun _ _ _ _ _ => (d_op o_add (d_w 5) (d_S (d_tup (a_consE (d_v 6) a_nil)))))))))
    (ss_one (st_retO 4)))))
/-! ### by_row -/
abbrev s_by_row : Stmt := topS 28
def b_by_row : FS := (sRet (eDComp (iIt (eV 0)) (.nm 1) [1] (eC (.bl true)) (eB gIx (eW 1) (eC (.int 0))) (eV 1)))
def m_by_row : Mir := fDef 2 b_by_row
theorem sc_by_row : FnScope ["places", "place"] ["places"] (defScope s_by_row) := ⟨rfl, rfl, rfl, by decide +kernel, rfl, by decide +kernel, by decide +kernel⟩
theorem ok_by_row (T : Tx w K mg) (A : At K mg "by_row" s_by_row ["places"]) : Ok P0 w K mg base 1 "by_row" 1 m_by_row :=
  okO (N := ["places", "place"]) (fs := b_by_row) A sc_by_row rfl rfl fun f cdv A outer s H G E hr =>
    (ss_one (st_ret (d_NE (d_dcomp (own := [("place", 1)]) rfl sc_by_row.nd (i_seq (d_v 0)) (blkOk_by (own := [("place", 1)]) (N := ["places", "place"]) (sc := defScope s_by_row) (by decide +kernel)) (by decide) (fun _ _ _ _ _ => (asDG (.nm 1) (pg_name (i := 1) sc_by_row.nd rfl (by first | exact Or.inl rfl | exact Or.inr rfl)))) (fun _ _ _ _ _ => ts_nil) (fun _ _ _ _ _ => (d_ix (d_w 1) (d_S d_int))) (fun _ _ _ _ _ => (d_v 1))))))
/-! ### is_worth -/
abbrev s_is_worth : Stmt := topS 23
def b_is_worth : FS := (sRet (eOr (eB gIsN' (eW 1) (eC .non)) (eCall 3 m_whole (aCons (eV 1) (aCons (eC (.int 0)) (aCons (eB gIx (eW 0) (eC (.int 1))) aNil))))))
def m_is_worth : Mir := fDef 2 b_is_worth
theorem sc_is_worth : FnScope ["two", "thing"] ["two", "thing"] (defScope s_is_worth) := ⟨rfl, rfl, rfl, by decide +kernel, rfl, by decide +kernel, by decide +kernel⟩
theorem ok_is_worth (T : Tx w K mg) (A : At K mg "is_worth" s_is_worth ["two", "thing"]) (O_whole : Ok P0 w K mg base 1 "whole" 3 m_whole) : Ok P0 w K mg base 2 "is_worth" 2 m_is_worth :=
  okO (N := ["two", "thing"]) (fs := b_is_worth) A sc_is_worth rfl rfl fun f cdv A outer s H G E hr =>
    (ss_one (st_ret (d_or (d_cmp o_isN (d_w 1) (d_S d_non) (nomark _)) (d_one (d_callO O_whole (hr.mono (by decide)) (by rfl) (tk_of (takes_of rfl rfl rfl rfl)) (a_consE (d_v 1) (a_consE d_int (a_consE (d_ix (d_w 0) (d_S d_int)) a_nil))))))))
/-! ### is_rule -/
abbrev s_is_rule : Stmt := topS 24
def b_is_rule : FS := (sSeq (sIf (eOr (eB (gTyIs true) (eU gType (eW 2)) (eC (.ty "tuple"))) (eOr (eB gEq (eU gLen (eW 2)) (eC (.int 0))) (eB (gTyIs true) (eU gType (eB gIx (eW 2) (eC (.int 0)))) (eC (.ty "str"))))) (sRet (eC (.bl false))) sNx)
  (sSeq (sIf (eB gEq (eB gIx (eW 2) (eC (.int 0))) (eC (.str "is"))) (sRet (eAnd (eB gEq (eU gLen (eW 2)) (eC (.int 2))) (eCall 2 m_is_worth (aCons (eV 1) (aCons (eB gIx (eW 2) (eC (.int 1))) aNil))))) sNx)
  (sSeq (sIf (eOr (eB gNe (eB gIx (eW 2) (eC (.int 0))) (eC (.str "by"))) (eB gNe (eU gLen (eW 2)) (eC (.int 3)))) (sRet (eC (.bl false))) sNx)
  (sSeq (sAsg (.tp [3, 4, 5]) (eV 0))
  (sSeq (sAsg (.tp [5, 6, 7]) (eV 2))
  (sSeq (sIf (eOr (eNot (eCall 3 m_whole (aCons (eV 6) (aCons (eC (.int 0)) (aCons (eB gSubI (eW 3) (eC (.int 1))) aNil))))) (eOr (eB (gTyIs true) (eU gType (eW 7)) (eC (.ty "tuple"))) (eB gNe (eU gLen (eW 7)) (eB gAdd (eW 4) (eC (.int 1)))))) (sRet (eC (.bl false))) sNx)
  (sRet (eU gAll (eComp (iIt (eV 7)) (.nm 8) [8] (eC (.bl true)) (eCall 2 m_is_worth (aCons (eV 1) (aCons (eV 8) aNil))))))))))))
def m_is_rule : Mir := fDef 9 b_is_rule
theorem sc_is_rule : FnScope ["one", "two", "thing", "boxes", "most", "_", "box", "numbers", "number"] ["one", "two", "thing"] (defScope s_is_rule) := ⟨rfl, rfl, rfl, by decide +kernel, rfl, by decide +kernel, by decide +kernel⟩
theorem ok_is_rule (T : Tx w K mg) (A : At K mg "is_rule" s_is_rule ["one", "two", "thing"]) (O_is_worth : Ok P0 w K mg base 2 "is_worth" 2 m_is_worth) (O_whole : Ok P0 w K mg base 1 "whole" 3 m_whole) : Ok P0 w K mg base 3 "is_rule" 3 m_is_rule :=
  okO (N := ["one", "two", "thing", "boxes", "most", "_", "box", "numbers", "number"]) (fs := b_is_rule) A sc_is_rule rfl rfl fun f cdv A outer s H G E hr =>
    (ss_cons (st_if (t_w (w_or (t_cmp o_tyNot (d_S (d_cT c_type (by rfl) T.n_type (by decide +kernel) (d_w 2))) (d_S (d_ty (by rfl) T.n_tuple (by decide +kernel))) (nomark _)) (w_or (t_cmp (o_eq hr.units) (d_S (d_cB c_len (by rfl) T.n_len PySem.boot_len (d_w 2))) (d_S d_int) (nomark _)) (w_or1 (t_cmp o_tyNot (d_S (d_cT c_type (by rfl) T.n_type (by decide +kernel) (d_S (d_ix (d_w 2) (d_S d_int))))) (d_S (d_ty (by rfl) T.n_str (by decide +kernel))) (nomark _)))))) (ss_one (st_ret d_bl)) ss_nil)
    (ss_cons (st_if (t_cmp (o_eq hr.units) (d_S (d_ix (d_w 2) (d_S d_int))) (d_S d_str) (nomark _)) (ss_one (st_ret (d_and (d_cmp (o_eq hr.units) (d_S (d_cB c_len (by rfl) T.n_len PySem.boot_len (d_w 2))) (d_S d_int) (nomark _)) (d_one (d_callO O_is_worth (hr.mono (by decide)) (by rfl) (tk_of (takes_of rfl rfl rfl rfl)) (a_consE (d_v 1) (a_consE (d_ix (d_w 2) (d_S d_int)) a_nil))))))) ss_nil)
    (ss_cons (st_if (t_w (w_or (t_cmp (o_ne hr.units) (d_S (d_ix (d_w 2) (d_S d_int))) (d_S d_str) (nomark _)) (w_or1 (t_cmp (o_ne hr.units) (d_S (d_cB c_len (by rfl) T.n_len PySem.boot_len (d_w 2))) (d_S d_int) (nomark _))))) (ss_one (st_ret d_bl)) ss_nil)
    (ss_cons (st_asg (d_v 0) (pg_tup rfl (pgs_cons (pg_name (i := 3) sc_is_rule.nd rfl (by first | exact Or.inl rfl | exact Or.inr rfl)) (pgs_cons (pg_name (i := 4) sc_is_rule.nd rfl (by first | exact Or.inl rfl | exact Or.inr rfl)) (pgs_cons (pg_name (i := 5) sc_is_rule.nd rfl (by first | exact Or.inl rfl | exact Or.inr rfl)) pgs_nil)))))
    (ss_cons (st_asg (d_v 2) (pg_tup rfl (pgs_cons (pg_name (i := 5) sc_is_rule.nd rfl (by first | exact Or.inl rfl | exact Or.inr rfl)) (pgs_cons (pg_name (i := 6) sc_is_rule.nd rfl (by first | exact Or.inl rfl | exact Or.inr rfl)) (pgs_cons (pg_name (i := 7) sc_is_rule.nd rfl (by first | exact Or.inl rfl | exact Or.inr rfl)) pgs_nil)))))
    (ss_cons (st_if (t_w (w_or (t_not (t_val (d_callO O_whole (hr.mono (by decide)) (by rfl) (tk_of (takes_of rfl rfl rfl rfl)) (a_consE (d_v 6) (a_consE d_int (a_consE (d_op o_sub (d_w 3) (d_S d_int)) a_nil)))))) (w_or (t_cmp o_tyNot (d_S (d_cT c_type (by rfl) T.n_type (by decide +kernel) (d_w 7))) (d_S (d_ty (by rfl) T.n_tuple (by decide +kernel))) (nomark _)) (w_or1 (t_cmp (o_ne hr.units) (d_S (d_cB c_len (by rfl) T.n_len PySem.boot_len (d_w 7))) (d_S (d_op o_add (d_w 4) (d_S d_int))) (nomark _)))))) (ss_one (st_ret d_bl)) ss_nil)
    (ss_one (st_ret (d_cB (c_all rfl) (by rfl) T.n_all (by decide +kernel) (d_NS (d_lc (own := [("number", 8)]) rfl sc_is_rule.nd (i_seq (d_v 7)) (blkOk_by (own := [("number", 8)]) (N := ["one", "two", "thing", "boxes", "most", "_", "box", "numbers", "number"]) (sc := defScope s_is_rule) (by decide +kernel)) (by decide) (fun _ _ _ _ _ => (asDG (.nm 8) (pg_name (i := 8) sc_is_rule.nd rfl (by first | exact Or.inl rfl | exact Or.inr rfl)))) (fun _ _ _ _ _ => ts_nil) (fun _ _ _ _ _ => (d_callO O_is_worth (hr.mono (by decide)) (by rfl) tk0 (a_consE (d_v 1) (a_consE (d_v 8) a_nil)))))))))))))))
/-! ### is_place -/
abbrev s_is_place : Stmt := topS 25
def b_is_place : FS := (sSeq (sIf (eOr (eB (gTyIs true) (eU gType (eW 2)) (eC (.ty "tuple"))) (eB gNe (eU gLen (eW 2)) (eC (.int 3)))) (sRet (eC (.bl false))) sNx)
  (sSeq (sAsg (.tp [3, 4, 5]) (eV 2))
  (sSeq (sIf (eOr (eNot (eCall 3 m_whole (aCons (eV 3) (aCons (eC (.int 0)) (aCons (eB gSubI (eU gLen (eB gIx (eW 0) (eC (.int 2)))) (eC (.int 1))) aNil))))) (eNot (eCall 3 m_whole (aCons (eV 4) (aCons (eC (.int 0)) (aCons (eB gSubI (eU gLen (eB gIx (eW 1) (eC (.int 2)))) (eC (.int 1))) aNil)))))) (sRet (eC (.bl false))) sNx)
  (sSeq (sIf (eOr (eB (gTyIs true) (eU gType (eW 5)) (eC (.ty "tuple"))) (eB gNe (eU gLen (eW 5)) (eB gIx (eW 1) (eC (.int 0))))) (sRet (eC (.bl false))) sNx)
  (sRet (eU gAll (eComp (iIt (eV 5)) (.nm 6) [6] (eC (.bl true)) (eCall 3 m_is_rule (aCons (eV 0) (aCons (eV 1) (aCons (eV 6) aNil)))))))))))
def m_is_place : Mir := fDef 7 b_is_place
theorem sc_is_place : FnScope ["one", "two", "thing", "row", "other", "rules", "rule"] ["one", "two", "thing"] (defScope s_is_place) := ⟨rfl, rfl, rfl, by decide +kernel, rfl, by decide +kernel, by decide +kernel⟩
theorem ok_is_place (T : Tx w K mg) (A : At K mg "is_place" s_is_place ["one", "two", "thing"]) (O_is_rule : Ok P0 w K mg base 3 "is_rule" 3 m_is_rule) (O_whole : Ok P0 w K mg base 1 "whole" 3 m_whole) : Ok P0 w K mg base 4 "is_place" 3 m_is_place :=
  okO (N := ["one", "two", "thing", "row", "other", "rules", "rule"]) (fs := b_is_place) A sc_is_place rfl rfl fun f cdv A outer s H G E hr =>
    (ss_cons (st_if (t_w (w_or (t_cmp o_tyNot (d_S (d_cT c_type (by rfl) T.n_type (by decide +kernel) (d_w 2))) (d_S (d_ty (by rfl) T.n_tuple (by decide +kernel))) (nomark _)) (w_or1 (t_cmp (o_ne hr.units) (d_S (d_cB c_len (by rfl) T.n_len PySem.boot_len (d_w 2))) (d_S d_int) (nomark _))))) (ss_one (st_ret d_bl)) ss_nil)
    (ss_cons (st_asg (d_v 2) (pg_tup rfl (pgs_cons (pg_name (i := 3) sc_is_place.nd rfl (by first | exact Or.inl rfl | exact Or.inr rfl)) (pgs_cons (pg_name (i := 4) sc_is_place.nd rfl (by first | exact Or.inl rfl | exact Or.inr rfl)) (pgs_cons (pg_name (i := 5) sc_is_place.nd rfl (by first | exact Or.inl rfl | exact Or.inr rfl)) pgs_nil)))))
    (ss_cons (st_if (t_w (w_or (t_not (t_val (d_callO O_whole (hr.mono (by decide)) (by rfl) (tk_of (takes_of rfl rfl rfl rfl)) (a_consE (d_v 3) (a_consE d_int (a_consE (d_op o_sub (d_S (d_cB c_len (by rfl) T.n_len PySem.boot_len (d_S (d_ix (d_w 0) (d_S d_int))))) (d_S d_int)) a_nil)))))) (w_or1 (t_not (t_val (d_callO O_whole (hr.mono (by decide)) (by rfl) (tk_of (takes_of rfl rfl rfl rfl)) (a_consE (d_v 4) (a_consE d_int (a_consE (d_op o_sub (d_S (d_cB c_len (by rfl) T.n_len PySem.boot_len (d_S (d_ix (d_w 1) (d_S d_int))))) (d_S d_int)) a_nil))))))))) (ss_one (st_ret d_bl)) ss_nil)
    (ss_cons (st_if (t_w (w_or (t_cmp o_tyNot (d_S (d_cT c_type (by rfl) T.n_type (by decide +kernel) (d_w 5))) (d_S (d_ty (by rfl) T.n_tuple (by decide +kernel))) (nomark _)) (w_or1 (t_cmp (o_ne hr.units) (d_S (d_cB c_len (by rfl) T.n_len PySem.boot_len (d_w 5))) (d_S (d_ix (d_w 1) (d_S d_int))) (nomark _))))) (ss_one (st_ret d_bl)) ss_nil)
    (ss_one (st_ret (d_cB (c_all rfl) (by rfl) T.n_all (by decide +kernel) (d_NS (d_lc (own := [("rule", 6)]) rfl sc_is_place.nd (i_seq (d_v 5)) (blkOk_by (own := [("rule", 6)]) (N := ["one", "two", "thing", "row", "other", "rules", "rule"]) (sc := defScope s_is_place) (by decide +kernel)) (by decide) (fun _ _ _ _ _ => (asDG (.nm 6) (pg_name (i := 6) sc_is_place.nd rfl (by first | exact Or.inl rfl | exact Or.inr rfl)))) (fun _ _ _ _ _ => ts_nil) (fun _ _ _ _ _ => (d_callO O_is_rule (hr.mono (by decide)) (by rfl) tk0 (a_consE (d_v 0) (a_consE (d_v 1) (a_consE (d_v 6) a_nil))))))))))))))
/-! ### is_places -/
abbrev s_is_places : Stmt := topS 26
def b_is_places : FS := (sSeq (sIf (eOr (eB (gTyIs true) (eU gType (eW 2)) (eC (.ty "list"))) (eB gGt (eU gLen (eW 2)) (eC (.int 20)))) (sRet (eC (.bl false))) sNx)
  (sSeq (sIf (eNot (eU gAll (eComp (iIt (eV 2)) (.nm 3) [3] (eC (.bl true)) (eCall 3 m_is_place (aCons (eV 0) (aCons (eV 1) (aCons (eV 3) aNil))))))) (sRet (eC (.bl false))) sNx)
  (sRet (eB gEq (eSetLen (iIt (eV 2)) (.nm 3) [3] (eC (.bl true)) (eB gIx (eW 3) (eC (.int 0)))) (eU gLen (eW 2))))))
def m_is_places : Mir := fDef 4 b_is_places
theorem sc_is_places : FnScope ["one", "two", "thing", "place"] ["one", "two", "thing"] (defScope s_is_places) := ⟨rfl, rfl, rfl, by decide +kernel, rfl, by decide +kernel, by decide +kernel⟩
theorem ok_is_places (T : Tx w K mg) (A : At K mg "is_places" s_is_places ["one", "two", "thing"]) (O_is_place : Ok P0 w K mg base 4 "is_place" 3 m_is_place) : Ok P0 w K mg base 5 "is_places" 3 m_is_places :=
  okO (N := ["one", "two", "thing", "place"]) (fs := b_is_places) A sc_is_places rfl rfl fun f cdv A outer s H G E hr =>
    (ss_cons (st_if (t_w (w_or (t_cmp o_tyNot (d_S (d_cT c_type (by rfl) T.n_type (by decide +kernel) (d_w 2))) (d_S (d_ty (by rfl) T.n_list (by decide +kernel))) (nomark _)) (w_or1 (t_cmp o_gt (d_S (d_cB c_len (by rfl) T.n_len PySem.boot_len (d_w 2))) (d_S (d_gi T.i_MOST_PLACES (by rfl))) (nomark _))))) (ss_one (st_ret d_bl)) ss_nil)
    (ss_cons (st_if (t_not (t_val (d_cB (c_all rfl) (by rfl) T.n_all (by decide +kernel) (d_NS (d_lc (own := [("place", 3)]) rfl sc_is_places.nd (i_seq (d_v 2)) (blkOk_by (own := [("place", 3)]) (N := ["one", "two", "thing", "place"]) (sc := defScope s_is_places) (by decide +kernel)) (by decide) (fun _ _ _ _ _ => (asDG (.nm 3) (pg_name (i := 3) sc_is_places.nd rfl (by first | exact Or.inl rfl | exact Or.inr rfl)))) (fun _ _ _ _ _ => ts_nil) (fun _ _ _ _ _ => (d_callO O_is_place (hr.mono (by decide)) (by rfl) tk0 (a_consE (d_v 0) (a_consE (d_v 1) (a_consE (d_v 3) a_nil)))))))))) (ss_one (st_ret d_bl)) ss_nil)
    (ss_one (st_ret (d_cmp (o_eq hr.units) (d_S (d_lenSet (own := [("place", 3)]) (by rfl) T.n_len rfl sc_is_places.nd (i_seq (d_v 2)) (blkOk_by (own := [("place", 3)]) (N := ["one", "two", "thing", "place"]) (sc := defScope s_is_places) (by decide +kernel)) (by decide) (fun _ _ _ _ _ => (asDG (.nm 3) (pg_name (i := 3) sc_is_places.nd rfl (by first | exact Or.inl rfl | exact Or.inr rfl)))) (fun _ _ _ _ _ => ts_nil) (fun _ _ _ _ _ => (d_ix (d_w 3) (d_S d_int))))) (d_S (d_cB c_len (by rfl) T.n_len PySem.boot_len (d_w 2))) (nomark _))))))
/-! ### need_places -/
abbrev s_need_places : Stmt := topS 27
def b_need_places : FS := (sSeq (sExp (eCall 1 m_need_program (aCons (eV 0) aNil)))
  (sSeq (sExp (eCall 1 m_need_program (aCons (eV 1) aNil)))
  (sSeq (sIf (eNot (eCall 3 m_is_places (aCons (eV 0) (aCons (eV 1) (aCons (eV 2) aNil))))) (sRaise "BadPlaces") sNx)
  (sRet (eU gList (eW 2))))))
def m_need_places : Mir := fDefN 3 b_need_places
theorem sc_need_places : FnScope ["one", "two", "places"] ["one", "two", "places"] (defScope s_need_places) := ⟨rfl, rfl, rfl, by decide +kernel, rfl, by decide +kernel, by decide +kernel⟩
theorem ok_need_places (T : Tx w K mg) (A : At K mg "need_places" s_need_places ["one", "two", "places"]) (O_is_places : Ok P0 w K mg base 5 "is_places" 3 m_is_places) (O_need_program : Ok P0 w K mg base 4 "need_program" 1 m_need_program) : OkN P0 w K mg base 6 "need_places" 3 m_need_places :=
  okON (N := ["one", "two", "places"]) (fs := b_need_places) A sc_need_places rfl rfl fun f cdv A outer s H G E hr =>
    (ss_cons (st_expr (d_S (d_callO O_need_program (hr.mono (by decide)) (by rfl) (tk_of (takes_of rfl rfl rfl rfl)) (a_consE (d_v 0) a_nil))))
    (ss_cons (st_expr (d_S (d_callO O_need_program (hr.mono (by decide)) (by rfl) (tk_of (takes_of rfl rfl rfl rfl)) (a_consE (d_v 1) a_nil))))
    (ss_cons (st_if (t_not (t_val (d_callO O_is_places (hr.mono (by decide)) (by rfl) (tk_of (takes_of rfl rfl rfl rfl)) (a_consE (d_v 0) (a_consE (d_v 1) (a_consE (d_v 2) a_nil)))))) (ss_one (st_raiseO T.r_BadPlaces rfl (takes_of rfl rfl rfl rfl) (by rfl))) ss_nil)
    (ss_one (st_retNew (d_cT c_list (by rfl) T.n_list (by decide +kernel) (d_w 2)))))))
/-! ### worth -/
abbrev s_worth : Stmt := topS 29
def b_worth : FS := (sSeq (sIf (eB gEq (eB gIx (eW 0) (eC (.int 0))) (eC (.str "is"))) (sRet (eB gIx (eW 0) (eC (.int 1)))) sNx)
  (sSeq (sAsg (.tp [2, 3, 4]) (eV 0))
  (sRet (eB gIx (eW 4) (eB gIx (eW 1) (eW 3))))))
def m_worth : Mir := fDef 5 b_worth
theorem sc_worth : FnScope ["rule", "numbers", "_", "box", "worths"] ["rule", "numbers"] (defScope s_worth) := ⟨rfl, rfl, rfl, by decide +kernel, rfl, by decide +kernel, by decide +kernel⟩
theorem ok_worth (T : Tx w K mg) (A : At K mg "worth" s_worth ["rule", "numbers"]) : Ok P0 w K mg base 1 "worth" 2 m_worth :=
  okO (N := ["rule", "numbers", "_", "box", "worths"]) (fs := b_worth) A sc_worth rfl rfl fun f cdv A outer s H G E hr =>
    (ss_cons (st_if (t_cmp (o_eq hr.units) (d_S (d_ix (d_w 0) (d_S d_int))) (d_S d_str) (nomark _)) (ss_one (st_ret (d_ix (d_w 0) (d_S d_int)))) ss_nil)
    (ss_cons (st_asg (d_v 0) (pg_tup rfl (pgs_cons (pg_name (i := 2) sc_worth.nd rfl (by first | exact Or.inl rfl | exact Or.inr rfl)) (pgs_cons (pg_name (i := 3) sc_worth.nd rfl (by first | exact Or.inl rfl | exact Or.inr rfl)) (pgs_cons (pg_name (i := 4) sc_worth.nd rfl (by first | exact Or.inl rfl | exact Or.inr rfl)) pgs_nil)))))
    (ss_one (st_ret (d_ix (d_w 4) (d_S (d_ix (d_w 1) (d_w 3))))))))
/-! ### turned -/
abbrev s_turned : Stmt := topS 30
def b_turned : FS := (sSeq (sNew 2 (eComp (iIt (eV 0)) (.nm 3) [3] (eC (.bl true)) (eCall 2 m_worth (aCons (eV 3) (aCons (eV 1) aNil)))))
  (sSeq (sIf (eB (gIn false) (eC .non) (eW 2)) (sRet (eC .non)) sNx)
  (sRet (eU gTuple (eW 2)))))
def m_turned : Mir := fDef 4 b_turned
theorem sc_turned : FnScope ["rules", "numbers", "found", "rule"] ["rules", "numbers"] (defScope s_turned) := ⟨rfl, rfl, rfl, by decide +kernel, rfl, by decide +kernel, by decide +kernel⟩
theorem ok_turned (T : Tx w K mg) (A : At K mg "turned" s_turned ["rules", "numbers"]) (O_worth : Ok P0 w K mg base 1 "worth" 2 m_worth) : Ok P0 w K mg base 2 "turned" 2 m_turned :=
  okO (N := ["rules", "numbers", "found", "rule"]) (fs := b_turned) A sc_turned rfl rfl fun f cdv A outer s H G E hr =>
    (ss_cons (st_newLc (own := [("rule", 3)]) (i := 2) rfl sc_turned.nd rfl rfl (sw_true rfl rfl rfl (by decide +kernel)) (i_seq (d_v 0)) (blkOk_by (own := [("rule", 3)]) (N := ["rules", "numbers", "found", "rule"]) (sc := defScope s_turned) (by decide +kernel)) (by decide) (fun _ _ _ _ _ => (asDG (.nm 3) (pg_name (i := 3) sc_turned.nd rfl (by first | exact Or.inl rfl | exact Or.inr rfl)))) (fun _ _ _ _ _ => ts_nil) (fun _ _ _ _ _ => (d_callO O_worth (hr.mono (by decide)) (by rfl) tk0 (a_consE (d_v 3) (a_consE (d_v 1) a_nil)))))
    (ss_cons (st_if (t_cmp o_in (d_S d_non) (d_w 2) (by rfl)) (ss_one (st_ret d_non)) ss_nil)
    (ss_one (st_ret (d_cT c_tuple (by rfl) T.n_tuple (by decide +kernel) (d_w 2))))))
/-! ### is_stuck -/
abbrev s_is_stuck : Stmt := topS 33
def b_is_stuck : FS := (sSeq (sAsg (.tp [2, 3]) (eV 1))
  (sRet (eAnd (eB (gDIn false) (eW 2) (eW 0)) (eB gIsN' (eCall 2 m_turned (aCons (eB gIx (eB gDGet (eW 0) (eW 2)) (eC (.int 2))) (aCons (eV 3) aNil))) (eC .non)))))
def m_is_stuck : Mir := fDef 4 b_is_stuck
theorem sc_is_stuck : FnScope ["there", "state", "row", "numbers"] ["there", "state"] (defScope s_is_stuck) := ⟨rfl, rfl, rfl, by decide +kernel, rfl, by decide +kernel, by decide +kernel⟩
theorem ok_is_stuck (T : Tx w K mg) (A : At K mg "is_stuck" s_is_stuck ["there", "state"]) (O_turned : Ok P0 w K mg base 2 "turned" 2 m_turned) : Ok P0 w K mg base 3 "is_stuck" 2 m_is_stuck :=
  okO (N := ["there", "state", "row", "numbers"]) (fs := b_is_stuck) A sc_is_stuck rfl rfl fun f cdv A outer s H G E hr =>
    (ss_cons (st_asg (d_v 1) (pg_tup rfl (pgs_cons (pg_name (i := 2) sc_is_stuck.nd rfl (by first | exact Or.inl rfl | exact Or.inr rfl)) (pgs_cons (pg_name (i := 3) sc_is_stuck.nd rfl (by first | exact Or.inl rfl | exact Or.inr rfl)) pgs_nil))))
    (ss_one (st_ret (d_and (d_cmp (o_dIn hr.units) (d_w 2) (d_w 0) (by rfl)) (d_one (d_cmp o_isN (d_S (d_callO O_turned (hr.mono (by decide)) (by rfl) (tk_of (takes_of rfl rfl rfl rfl)) (a_consE (d_ix (d_S (d_dget (hu_of hr) (d_w 0) (d_w 2))) (d_S d_int)) (a_consE (d_v 3) a_nil)))) (d_S d_non) (nomark _)))))))
/-! ### replaced -/
abbrev s_replaced : Stmt := topS 19
def b_replaced : FS := (sRet (eB gAdd (eB gAdd (eSl (eW 0) oNone (oSome (eV 1))) (eTup (aCons (eV 2) aNil))) (eSl (eW 0) (oSome (eB gAdd (eW 1) (eC (.int 1)))) oNone)))
def m_replaced : Mir := fDef 3 b_replaced
theorem sc_replaced : FnScope ["numbers", "box", "number"] ["numbers", "box", "number"] (defScope s_replaced) := ⟨rfl, rfl, rfl, by decide +kernel, rfl, by decide +kernel, by decide +kernel⟩
theorem ok_replaced (T : Tx w K mg) (A : At K mg "replaced" s_replaced ["numbers", "box", "number"]) : Ok P0 w K mg base 1 "replaced" 3 m_replaced :=
  okO (N := ["numbers", "box", "number"]) (fs := b_replaced) A sc_replaced rfl rfl fun f cdv A outer s H G E hr =>
    (ss_one (st_ret (d_op o_add (d_S (d_op o_add (d_S (d_sl (d_w 0) o_none (o_some (d_v 1)))) (d_S (d_tup (a_consE (d_v 2) a_nil))))) (d_S (d_sl (d_w 0) (o_some (d_op o_add (d_w 1) (d_S d_int))) o_none)))))
/-! ### written -/
abbrev s_written : Stmt := topS 18
def b_written : FS := (sSeq (sIf (eB gEq (eB gIx (eW 1) (eC (.int 0))) (eC (.str "put"))) (sRet (eB gIx (eW 1) (eC (.int 2)))) sNx)
  (sSeq (sIf (eB gEq (eB gIx (eW 1) (eC (.int 0))) (eC (.str "copy"))) (sRet (eB gIx (eW 2) (eB gIx (eW 1) (eC (.int 2))))) sNx)
  (sSeq (sSet 3 (eB gIx (eW 2) (eB gIx (eW 1) (eC (.int 1)))))
  (sRet (eIf (eB gEq (eW 3) (eW 0)) (eC (.int 0)) (eB gAdd (eW 3) (eC (.int 1))))))))
def m_written : Mir := fDef 4 b_written
theorem sc_written : FnScope ["most", "row", "numbers", "number"] ["most", "row", "numbers"] (defScope s_written) := ⟨rfl, rfl, rfl, by decide +kernel, rfl, by decide +kernel, by decide +kernel⟩
theorem ok_written (T : Tx w K mg) (A : At K mg "written" s_written ["most", "row", "numbers"]) : Ok P0 w K mg base 1 "written" 3 m_written :=
  okO (N := ["most", "row", "numbers", "number"]) (fs := b_written) A sc_written rfl rfl fun f cdv A outer s H G E hr =>
    (ss_cons (st_if (t_cmp (o_eq hr.units) (d_S (d_ix (d_w 1) (d_S d_int))) (d_S d_str) (nomark _)) (ss_one (st_ret (d_ix (d_w 1) (d_S d_int)))) ss_nil)
    (ss_cons (st_if (t_cmp (o_eq hr.units) (d_S (d_ix (d_w 1) (d_S d_int))) (d_S d_str) (nomark _)) (ss_one (st_ret (d_ix (d_w 2) (d_S (d_ix (d_w 1) (d_S d_int)))))) ss_nil)
    (ss_cons (st_set (i := 3) sc_written.nd rfl (by first | exact Or.inl rfl | exact Or.inr rfl) (d_ix (d_w 2) (d_S (d_ix (d_w 1) (d_S d_int)))))
    (ss_one (st_ret (d_if (t_cmp (o_eq hr.units) (d_w 3) (d_w 0) (nomark _)) d_int (d_op o_add (d_w 3) (d_S d_int))))))))
/-! ### stepped -/
abbrev s_stepped : Stmt := topS 20
def b_stepped : FS := (sSeq (sAsg (.tp [2, 3, 4]) (eV 0))
  (sSeq (sAsg (.tp [5, 6]) (eV 1))
  (sSeq (sSet 7 (eB gIx (eW 4) (eW 5)))
  (sSeq (sSet 8 (eB gIx (eW 7) (eC (.int 0))))
  (sSeq (sIf (eB gEq (eW 8) (eC (.str "stop"))) (sRet (eTup (aCons (eC .non) (aCons (eC .non) aNil)))) sNx)
  (sSeq (sIf (eB gEq (eW 8) (eC (.str "go"))) (sRet (eTup (aCons (eTup (aCons (eB gIx (eW 7) (eC (.int 1))) (aCons (eV 6) aNil))) (aCons (eC .non) aNil)))) sNx)
  (sSeq (sIf (eB gEq (eW 8) (eC (.str "ask"))) (sRet (eTup (aCons (eTup (aCons (eIf (eB gEq (eB gIx (eW 6) (eB gIx (eW 7) (eC (.int 1)))) (eC (.int 0))) (eB gIx (eW 7) (eC (.int 2))) (eB gAdd (eW 5) (eC (.int 1)))) (aCons (eV 6) aNil))) (aCons (eC .non) aNil)))) sNx)
  (sSeq (sIf (eB gEq (eW 8) (eC (.str "tell"))) (sRet (eTup (aCons (eTup (aCons (eB gAdd (eW 5) (eC (.int 1))) (aCons (eV 6) aNil))) (aCons (eB gIx (eW 6) (eB gIx (eW 7) (eC (.int 1)))) aNil)))) sNx)
  (sRet (eTup (aCons (eTup (aCons (eB gAdd (eW 5) (eC (.int 1))) (aCons (eCall 3 m_replaced (aCons (eV 6) (aCons (eB gIx (eW 7) (eC (.int 1))) (aCons (eCall 3 m_written (aCons (eV 3) (aCons (eV 7) (aCons (eV 6) aNil)))) aNil)))) aNil))) (aCons (eC .non) aNil))))))))))))
def m_stepped : Mir := fDef 9 b_stepped
theorem sc_stepped : FnScope ["program", "state", "_", "most", "rows", "at", "numbers", "row", "kind"] ["program", "state"] (defScope s_stepped) := ⟨rfl, rfl, rfl, by decide +kernel, rfl, by decide +kernel, by decide +kernel⟩
theorem ok_stepped (T : Tx w K mg) (A : At K mg "stepped" s_stepped ["program", "state"]) (O_replaced : Ok P0 w K mg base 1 "replaced" 3 m_replaced) (O_written : Ok P0 w K mg base 1 "written" 3 m_written) : Ok P0 w K mg base 2 "stepped" 2 m_stepped :=
  okO (N := ["program", "state", "_", "most", "rows", "at", "numbers", "row", "kind"]) (fs := b_stepped) A sc_stepped rfl rfl fun f cdv A outer s H G E hr =>
    (ss_cons (st_asg (d_v 0) (pg_tup rfl (pgs_cons (pg_name (i := 2) sc_stepped.nd rfl (by first | exact Or.inl rfl | exact Or.inr rfl)) (pgs_cons (pg_name (i := 3) sc_stepped.nd rfl (by first | exact Or.inl rfl | exact Or.inr rfl)) (pgs_cons (pg_name (i := 4) sc_stepped.nd rfl (by first | exact Or.inl rfl | exact Or.inr rfl)) pgs_nil)))))
    (ss_cons (st_asg (d_v 1) (pg_tup rfl (pgs_cons (pg_name (i := 5) sc_stepped.nd rfl (by first | exact Or.inl rfl | exact Or.inr rfl)) (pgs_cons (pg_name (i := 6) sc_stepped.nd rfl (by first | exact Or.inl rfl | exact Or.inr rfl)) pgs_nil))))
    (ss_cons (st_set (i := 7) sc_stepped.nd rfl (by first | exact Or.inl rfl | exact Or.inr rfl) (d_ix (d_w 4) (d_w 5)))
    (ss_cons (st_set (i := 8) sc_stepped.nd rfl (by first | exact Or.inl rfl | exact Or.inr rfl) (d_ix (d_w 7) (d_S d_int)))
    (ss_cons (st_if (t_cmp (o_eq hr.units) (d_w 8) (d_S d_str) (nomark _)) (ss_one (st_ret (d_tup (a_consE d_non (a_consE d_non a_nil))))) ss_nil)
    (ss_cons (st_if (t_cmp (o_eq hr.units) (d_w 8) (d_S d_str) (nomark _)) (ss_one (st_ret (d_tup (a_consE (d_tup (a_consE (d_ix (d_w 7) (d_S d_int)) (a_consE (d_v 6) a_nil))) (a_consE d_non a_nil))))) ss_nil)
    (ss_cons (st_if (t_cmp (o_eq hr.units) (d_w 8) (d_S d_str) (nomark _)) (ss_one (st_ret (d_tup (a_consE (d_tup (a_consE (d_if (t_cmp (o_eq hr.units) (d_S (d_ix (d_w 6) (d_S (d_ix (d_w 7) (d_S d_int))))) (d_S d_int) (nomark _)) (d_ix (d_w 7) (d_S d_int)) (d_op o_add (d_w 5) (d_S d_int))) (a_consE (d_v 6) a_nil))) (a_consE d_non a_nil))))) ss_nil)
    (ss_cons (st_if (t_cmp (o_eq hr.units) (d_w 8) (d_S d_str) (nomark _)) (ss_one (st_ret (d_tup (a_consE (d_tup (a_consE (d_op o_add (d_w 5) (d_S d_int)) (a_consE (d_v 6) a_nil))) (a_consE (d_ix (d_w 6) (d_S (d_ix (d_w 7) (d_S d_int)))) a_nil))))) ss_nil)
    (ss_one (st_ret (d_tup (a_consE (d_tup (a_consE (d_op o_add (d_w 5) (d_S d_int)) (a_consE (d_callO O_replaced (hr.mono (by decide)) (by rfl) (tk_of (takes_of rfl rfl rfl rfl)) (a_consE (d_v 6) (a_consE (d_ix (d_w 7) (d_S d_int)) (a_consE (d_callO O_written (hr.mono (by decide)) (by rfl) (tk_of (takes_of rfl rfl rfl rfl)) (a_consE (d_v 3) (a_consE (d_v 7) (a_consE (d_v 6) a_nil)))) a_nil)))) a_nil))) (a_consE d_non a_nil)))))))))))))
/-! ### unsafe_run -/
abbrev s_unsafe_run : Stmt := topS 34
def b_unsafe_run : FS := (sSeq (sNewDt 4)
  (sSeq (sSet 5 (eTup (aCons (eC (.int 0)) (aCons (eV 2) aNil))))
  (sSeq (sWhile 3000 (eAnd (eB gNotN' (eW 5) (eC .non)) (eAnd (eDtIn true 3 (eV 5)) (eDtIn true 4 (eV 5)))) (sSeq (sIf (eCall 2 m_is_stuck (aCons (eV 1) (aCons (eV 5) aNil))) (sRetB 3 (eTup (aCons (eC (.str "stuck")) (aCons (eV 2) (aCons (eDtLen 4) aNil))))) sNx)
  (sSeq (sDtPut 4 (eV 5) (eDtLen 4))
  (sAsg (.tp [5, 6]) (eCall 2 m_stepped (aCons (eV 0) (aCons (eV 5) aNil)))))))
  (sSeq (sIf (eDtIn false 4 (eV 5)) (sSeq (sSet 7 (eDtGet 4 (eV 5)))
  (sIf (eNot (eU gAny (eComp (iIt (eSl (eDtKeys 4) (oSome (eV 7)) oNone)) (.nm 8) [8] (eC (.bl true)) (eB (gDIn false) (eB gIx (eW 8) (eC (.int 0))) (eW 1))))) (sRetB 3 (eTup (aCons (eC (.str "missed")) (aCons (eV 2) (aCons (eV 7) aNil))))) sNx)) sNx)
  (sSeq (sForD 4 (.nm 8) (sDtPut 3 (eV 8) (eC (.bl true))))
  (sRetB 3 (eC .non)))))))
def m_unsafe_run : MirB := fDefB 3 9 b_unsafe_run
theorem sc_unsafe_run : FnScope ["one", "there", "begin", "fine", "behind", "now", "_", "many", "state"] ["one", "there", "begin", "fine"] (defScope s_unsafe_run) := ⟨rfl, rfl, rfl, by decide +kernel, rfl, by decide +kernel, by decide +kernel⟩
theorem ok_unsafe_run (T : Tx w K mg) (A : At K mg "unsafe_run" s_unsafe_run ["one", "there", "begin", "fine"]) (O_is_stuck : Ok P0 w K mg base 3 "is_stuck" 2 m_is_stuck) (O_stepped : Ok P0 w K mg base 2 "stepped" 2 m_stepped) : OkB P0 w K mg base 4 "unsafe_run" 4 3 m_unsafe_run :=
  okOB (N := ["one", "there", "begin", "fine", "behind", "now", "_", "many", "state"]) (fs := b_unsafe_run) A sc_unsafe_run rfl (by decide) rfl fun f cdv A outer s H Hm G a E hr =>
    (ss_cons (st_newDt (i := 4) sc_unsafe_run.nd rfl (by first | exact Or.inl rfl | exact Or.inr rfl))
    (ss_cons (st_set (i := 5) sc_unsafe_run.nd rfl (by first | exact Or.inl rfl | exact Or.inr rfl) (d_tup (a_consE d_int (a_consE (d_v 2) a_nil))))
    (ss_cons (st_while (n := 3000) (passes_of rfl) (t_w (w_and (t_cmp o_notN (d_w 5) (d_S d_non) (nomark _)) (w_and (t_ndNin (i := 3) hr.units (d_v 5) rfl (by first | exact Or.inl rfl | exact Or.inr (Or.inl rfl) | exact Or.inr (Or.inr rfl))) (w_and1 (t_ndNin (i := 4) hr.units (d_v 5) rfl (by first | exact Or.inl rfl | exact Or.inr (Or.inl rfl) | exact Or.inr (Or.inr rfl))))))) (ss_cons (st_if (t_val (d_callO O_is_stuck (hr.mono (by decide)) (by rfl) (tk_of (takes_of rfl rfl rfl rfl)) (a_consE (d_v 1) (a_consE (d_v 5) a_nil)))) (ss_one (st_retB 3 (d_tup (a_consE d_str (a_consE (d_v 2) (a_consE (d_ndLen (i := 4) (by rfl) T.n_len rfl (by first | exact Or.inl rfl | exact Or.inr (Or.inl rfl) | exact Or.inr (Or.inr rfl))) a_nil)))))) ss_nil)
    (ss_cons (st_ndPut (i := 4) hr.units (d_ndLen (i := 4) (by rfl) T.n_len rfl (by first | exact Or.inl rfl | exact Or.inr (Or.inl rfl) | exact Or.inr (Or.inr rfl))) (d_v 5) rfl (by first | exact Or.inl rfl | exact Or.inr (Or.inl rfl) | exact Or.inr (Or.inr rfl)))
    (ss_one (st_asg (d_callO O_stepped (hr.mono (by decide)) (by rfl) (tk_of (takes_of rfl rfl rfl rfl)) (a_consE (d_v 0) (a_consE (d_v 5) a_nil))) (pg_tup rfl (pgs_cons (pg_name (i := 5) sc_unsafe_run.nd rfl (by first | exact Or.inl rfl | exact Or.inr rfl)) (pgs_cons (pg_name (i := 6) sc_unsafe_run.nd rfl (by first | exact Or.inl rfl | exact Or.inr rfl)) pgs_nil))))))))
    (ss_cons (st_if (t_ndIn (i := 4) hr.units (d_v 5) rfl (by first | exact Or.inl rfl | exact Or.inr (Or.inl rfl) | exact Or.inr (Or.inr rfl))) (ss_cons (st_set (i := 7) sc_unsafe_run.nd rfl (by first | exact Or.inl rfl | exact Or.inr rfl) (d_ndGet (i := 4) hr.units (d_v 5) rfl (by first | exact Or.inl rfl | exact Or.inr (Or.inl rfl) | exact Or.inr (Or.inr rfl))))
    (ss_one (st_if (t_not (t_val (d_cB (c_any rfl) (by rfl) T.n_any (by decide +kernel) (d_NS (d_lc (own := [("state", 8)]) rfl sc_unsafe_run.nd (i_seq (d_sl (d_NS (d_ndList (i := 4) rfl (by rfl) T.n_list rfl (by first | exact Or.inl rfl | exact Or.inr (Or.inl rfl) | exact Or.inr (Or.inr rfl)))) (o_some (d_v 7)) o_none)) (blkOk_by (own := [("state", 8)]) (N := ["one", "there", "begin", "fine", "behind", "now", "_", "many", "state"]) (sc := defScope s_unsafe_run) (by decide +kernel)) (by decide) (fun _ _ _ _ _ => (asDG (.nm 8) (pg_name (i := 8) sc_unsafe_run.nd rfl (by first | exact Or.inl rfl | exact Or.inr rfl)))) (fun _ _ _ _ _ => ts_nil) (fun _ _ _ _ _ => (d_cmp (o_dIn hr.units) (d_S (d_ix (d_w 8) (d_S d_int))) (d_w 1) (by rfl)))))))) (ss_one (st_retB 3 (d_tup (a_consE d_str (a_consE (d_v 2) (a_consE (d_v 7) a_nil)))))) ss_nil))) ss_nil)
    (ss_cons (st_forD 4 (passes_of rfl) rfl (asDG (.nm 8) (pg_name (i := 8) sc_unsafe_run.nd rfl (by first | exact Or.inl rfl | exact Or.inr rfl))) (fun h => (ss_one (st_ndPut (i := 3) hr.units d_bl (d_v 8) rfl (by first | exact Or.inl rfl | exact Or.inr (Or.inl rfl) | exact Or.inr (Or.inr rfl))))))
    (ss_one (st_retB 3 d_non)))))))
/-! ### looked -/
abbrev s_looked : Stmt := topS 35
def b_looked : FS := (sSeq (sSet 3 (eCall 1 m_by_row (aCons (eCall 3 m_need_places (aCons (eV 0) (aCons (eV 1) (aCons (eV 2) aNil)))) aNil)))
  (sSeq (sNewDt 4)
  (sSeq (sFor (iIt (eCall 1 m_begins (aCons (eV 0) aNil))) (.nm 5) (sSeq (sSetB 6 4 4 m_unsafe_run (aCons (eV 0) (aCons (eV 3) (aCons (eV 5) (aCons (eC .non) aNil)))))
  (sIf (eB gNotN' (eW 6) (eC .non)) (sRet (eV 6)) sNx)))
  (sRet (eTup (aCons (eC (.str "safe")) aNil))))))
def m_looked : Mir := fDef 7 b_looked
theorem sc_looked : FnScope ["one", "two", "places", "there", "fine", "begin", "run"] ["one", "two", "places"] (defScope s_looked) := ⟨rfl, rfl, rfl, by decide +kernel, rfl, by decide +kernel, by decide +kernel⟩
theorem ok_looked (T : Tx w K mg) (A : At K mg "looked" s_looked ["one", "two", "places"]) (O_begins : OkN P0 w K mg base 5 "begins" 1 m_begins) (O_by_row : Ok P0 w K mg base 1 "by_row" 1 m_by_row) (O_need_places : OkN P0 w K mg base 6 "need_places" 3 m_need_places) (O_unsafe_run : OkB P0 w K mg base 4 "unsafe_run" 4 3 m_unsafe_run) : Ok P0 w K mg base 7 "looked" 3 m_looked :=
  okO (N := ["one", "two", "places", "there", "fine", "begin", "run"]) (fs := b_looked) A sc_looked rfl rfl fun f cdv A outer s H G E hr =>
    (ss_cons (st_set (i := 3) sc_looked.nd rfl (by first | exact Or.inl rfl | exact Or.inr rfl) (d_callO O_by_row (hr.mono (by decide)) (by rfl) (tk_of (takes_of rfl rfl rfl rfl)) (a_consE (d_NE (d_callN O_need_places (hr.mono (by decide)) (by rfl) (tk_of (takes_of rfl rfl rfl rfl)) (a_consE (d_v 0) (a_consE (d_v 1) (a_consE (d_v 2) a_nil))))) a_nil)))
    (ss_cons (st_newDt (i := 4) sc_looked.nd rfl (by first | exact Or.inl rfl | exact Or.inr rfl))
    (ss_cons (st_for (passes_of rfl) rfl (i_seq (d_NE (d_callN O_begins (hr.mono (by decide)) (by rfl) (tk_of (takes_of rfl rfl rfl rfl)) (a_consE (d_v 0) a_nil)))) (pg_name (i := 5) sc_looked.nd rfl (by first | exact Or.inl rfl | exact Or.inr rfl)) (ss_cons (st_setB (i0 := 6) O_unsafe_run (hr.mono (by decide)) (by rfl) (tk_of (takes_of rfl rfl rfl rfl)) (ab_cons (d_v 0) (ab_cons (d_v 3) (ab_cons (d_v 5) (ab_first 4 a_nil)))) sc_looked.nd rfl (by first | exact Or.inl rfl | exact Or.inr rfl))
    (ss_one (st_if (t_cmp o_notN (d_w 6) (d_S d_non) (nomark _)) (ss_one (st_ret (d_v 6))) ss_nil))))
    (ss_one (st_ret (d_tup (a_consE d_str a_nil)))))))
/-! ### law_word -/
abbrev s_law_word : Stmt := topS 56
def b_law_word : FS := (sSeq (sTry tr4_law_word 3 (sExp (eCall 3 m_looked (aCons (eV 0) (aCons (eV 1) (aCons (eV 2) aNil))))) (sSeq (sSet 4 (eB gAdd (eB gMul (eLst (aCons (eC (.str "program")) aNil)) (eU gInt (eIsE 3 is0_law_word))) (eB gMul (eLst (aCons (eC (.str "places")) aNil)) (eU gInt (eIsE 3 is1_law_word)))))
  (sSeq (sSet 5 (eIsE 3 is2_law_word))
  (sRet (eB gAdd (eB gAdd (eW 4) (eB gMul (eLst (aCons (eC (.str "others")) aNil)) (eU gInt (eW 5)))) (eB gMul (eLst (aCons (eC (.str "value")) aNil)) (eU gInt (eIsE 3 is3_law_word))))))))
  (sRet (eLst aNil)))
def m_law_word : Mir := fDef 6 b_law_word
theorem sc_law_word : FnScope ["_law_one", "_law_two", "_law_places_here", "e", "_law_words", "_law_others"] ["_law_one", "_law_two", "_law_places_here"] (defScope s_law_word) := ⟨rfl, rfl, rfl, by decide +kernel, rfl, by decide +kernel, by decide +kernel⟩
theorem ok_law_word (T : Tx w K mg) (A : At K mg "_law_word" s_law_word ["_law_one", "_law_two", "_law_places_here"]) (O_looked : Ok P0 w K mg base 7 "looked" 3 m_looked) : Ok P0 w K mg base 8 "_law_word" 3 m_law_word :=
  okO (N := ["_law_one", "_law_two", "_law_places_here", "e", "_law_words", "_law_others"]) (fs := b_law_word) A sc_law_word rfl rfl fun f cdv A outer s H G E hr =>
    (ss_cons (st_tryO (i := 3) rfl rfl sc_law_word.nd rfl rfl T.x_SwapError (by rfl) (takes_of rfl rfl rfl rfl) T.e_tr4_law_word (fun W' pn xe tkb po => (ss_one (st_expr (d_S (d_callO O_looked (hr.mono (by decide)) (by rfl) (tk_of tkb) (a_consE (d_v 0) (a_consE (d_v 1) (a_consE (d_v 2) a_nil)))))))) (fun a oe cls d pn hz hf => (ss_cons (st_set (i := 4) sc_law_word.nd rfl (by first | exact Or.inl rfl | exact Or.inr rfl) (d_op o_add (d_S (d_op o_mul (d_NS (d_lst (a_consE d_str a_nil))) (d_S (d_cT c_int (by rfl) T.n_int (by decide +kernel) (d_S (isE_own hz hf (by rfl) (by first | exact Or.inl rfl | exact Or.inr (Or.inl rfl)) T.n_isinstance T.x_BadProgram T.c_is0_law_word)))))) (d_S (d_op o_mul (d_NS (d_lst (a_consE d_str a_nil))) (d_S (d_cT c_int (by rfl) T.n_int (by decide +kernel) (d_S (isE_own hz hf (by rfl) (by first | exact Or.inl rfl | exact Or.inr (Or.inl rfl)) T.n_isinstance T.x_BadPlaces T.c_is1_law_word))))))))
    (ss_cons (st_set (i := 5) sc_law_word.nd rfl (by first | exact Or.inl rfl | exact Or.inr rfl) (isEs_own hz hf (by rfl) (by first | exact Or.inl rfl | exact Or.inr (Or.inl rfl)) T.n_isinstance (nm_cons T.x_BadCount (nm_cons T.x_BadState (nm_cons T.x_Busy (nm_cons T.x_Over (nm_cons T.x_Unsafe nm_nil))))) (by decide) T.c_is2_law_word))
    (ss_one (st_ret (d_op o_add (d_S (d_op o_add (d_w 4) (d_S (d_op o_mul (d_NS (d_lst (a_consE d_str a_nil))) (d_S (d_cT c_int (by rfl) T.n_int (by decide +kernel) (d_w 5))))))) (d_S (d_op o_mul (d_NS (d_lst (a_consE d_str a_nil))) (d_S (d_cT c_int (by rfl) T.n_int (by decide +kernel) (d_S (isE_ty hz hf (by rfl) (by first | exact Or.inl rfl | exact Or.inr (Or.inl rfl)) T.n_isinstance T.n_ValueError (by decide +kernel) T.c_is3_law_word)))))))))))))
    (ss_one (st_ret (d_NE (d_lst a_nil)))))
/-! ### law -/
abbrev s_law : Stmt := topS 57
def b_law : FS := (sSeq (sSet 1 (eCall 1 m_law_program (aCons (eCall 2 m_law_cell_at (aCons (eV 0) (aCons (eC (.int 0)) aNil))) aNil)))
  (sSeq (sSet 2 (eCall 1 m_law_program (aCons (eCall 2 m_law_cell_at (aCons (eV 0) (aCons (eC (.int 1)) aNil))) aNil)))
  (sSeq (sSet 3 (eCall 3 m_law_places (aCons (eCall 2 m_law_cell_at (aCons (eV 0) (aCons (eC (.int 2)) aNil))) (aCons (eV 1) (aCons (eV 2) aNil)))))
  (sSeq (sIf (eB gEq (eB gMod (eCall 2 m_law_cell_at (aCons (eV 0) (aCons (eC (.int 3)) aNil))) (eC (.int 4))) (eC (.int 1))) (sSet 3 (eSl (eW 3) oNone (oSome (eB gMod (eB gDiv (eCall 2 m_law_cell_at (aCons (eV 0) (aCons (eC (.int 3)) aNil))) (eC (.int 4))) (eC (.int 2)))))) sNx)
  (sSeq (sIf (eB gEq (eB gMod (eCall 2 m_law_cell_at (aCons (eV 0) (aCons (eC (.int 4)) aNil))) (eC (.int 8))) (eC (.int 1))) (sSeq (sSet 4 (eLst (aCons (eTup (aCons (eC (.int 0)) (aCons (eC (.int 1)) (aCons (eLst (aCons (eTup (aCons (eC (.str "go")) (aCons (eC (.int 1)) aNil))) aNil)) aNil)))) (aCons (eC .non) (aCons (eTup (aCons (eB gIx (eW 1) (eC (.int 0))) (aCons (eB gIx (eW 1) (eC (.int 1))) (aCons (eLst aNil) aNil)))) (aCons (eTup (aCons (eC (.int 4)) (aCons (eB gIx (eW 1) (eC (.int 1))) (aCons (eB gIx (eW 1) (eC (.int 2))) aNil)))) (aCons (eTup (aCons (eB gIx (eW 1) (eC (.int 0))) (aCons (eC (.int 5)) (aCons (eB gIx (eW 1) (eC (.int 2))) aNil)))) aNil)))))))
  (sSeq (sSet 4 (eB gAdd (eW 4) (eLst (aCons (eTup (aCons (eB gIx (eW 1) (eC (.int 0))) (aCons (eB gIx (eW 1) (eC (.int 1))) (aCons (eB gAdd (eB gIx (eW 1) (eC (.int 2))) (eLst (aCons (eTup (aCons (eC (.str "stop")) (aCons (eC (.int 0)) aNil))) aNil))) aNil)))) (aCons (eTup (aCons (eB gIx (eW 1) (eC (.int 0))) (aCons (eB gIx (eW 1) (eC (.int 1))) (aCons (eU gTuple (eB gIx (eW 1) (eC (.int 2)))) aNil)))) aNil)))))
  (sSeq (sSet 4 (eB gIx (eB gAdd (eW 4) (eLst (aCons (eTup (aCons (eB gIx (eW 1) (eC (.int 0))) (aCons (eB gIx (eW 1) (eC (.int 1))) (aCons (eB gAdd (eSl (eB gIx (eW 1) (eC (.int 2))) (oSome (eC (.int 1))) oNone) (eLst (aCons (eTup (aCons (eC (.str "tell")) (aCons (eC (.int 0)) aNil))) aNil))) aNil)))) aNil))) (eB gMod (eB gDiv (eCall 2 m_law_cell_at (aCons (eV 0) (aCons (eC (.int 4)) aNil))) (eC (.int 8))) (eC (.int 8)))))
  (sSeq (sSet 5 (eB gMod (eB gDiv (eCall 2 m_law_cell_at (aCons (eV 0) (aCons (eC (.int 4)) aNil))) (eC (.int 64))) (eC (.int 5))))
  (sSeq (sSet 6 (eLst (aCons (eTup (aCons (eV 4) (aCons (eV 2) (aCons (eV 3) aNil)))) (aCons (eTup (aCons (eV 1) (aCons (eV 4) (aCons (eV 3) aNil)))) (aCons (eTup (aCons (eV 4) (aCons (eV 2) (aCons (eC .non) aNil)))) aNil)))))
  (sSeq (sSet 7 (eCall 4 m_law_odd_place (aCons (eV 1) (aCons (eV 2) (aCons (eV 3) (aCons (eB gDiv (eCall 2 m_law_cell_at (aCons (eV 0) (aCons (eC (.int 4)) aNil))) (eC (.int 320))) aNil))))))
  (sSeq (sSet 6 (eB gIx (eB gAdd (eW 6) (eLst (aCons (eTup (aCons (eV 1) (aCons (eV 4) (aCons (eLst (aCons (eC .non) aNil)) aNil)))) (aCons (eTup (aCons (eV 1) (aCons (eV 2) (aCons (eB gAdd (eW 3) (eLst (aCons (eV 7) aNil))) aNil)))) aNil)))) (eW 5)))
  (sSeq (sSet 8 (eLst (aCons (eB gIx (eLst (aCons (eC (.str "program")) (aCons (eC (.str "places")) aNil))) (eU gInt (eB gEq (eW 5) (eC (.int 4))))) (aCons (eC (.str "value")) aNil))))
  (sRet (eB gEq (eCall 3 m_law_word (aCons (eB gIx (eW 6) (eC (.int 0))) (aCons (eB gIx (eW 6) (eC (.int 1))) (aCons (eB gIx (eW 6) (eC (.int 2))) aNil)))) (eW 8))))))))))) sNx)
  (sSeq (sSet 9 (eCall 1 m_law_rules (aCons (eV 3) aNil)))
  (sSeq (sSet 10 (eCall 2 m_law_is_safe (aCons (eV 1) (aCons (eV 9) aNil))))
  (sSeq (sSet 11 (eLst (aCons (eU gList (eB gIx (eW 1) (eC (.int 2)))) (aCons (eU gList (eB gIx (eW 2) (eC (.int 2)))) (aCons (eU gList (eW 3)) aNil)))))
  (sSeq (sSet 12 (eCall 3 m_looked (aCons (eV 1) (aCons (eV 2) (aCons (eV 3) aNil)))))
  (sSeq (sIf (eNot (eCall 4 m_law_right (aCons (eV 1) (aCons (eV 9) (aCons (eV 12) (aCons (eV 10) aNil)))))) (sRet (eC (.bl false))) sNx)
  (sSeq (sNew 13 (eCall 1 m_begins (aCons (eV 1) aNil)))
  (sSeq (sIf (eOr (eNot (eU (gIsi "list") (eW 13))) (eOr (eB gNe (eW 13) (eCall 1 m_law_begins (aCons (eV 1) aNil))) (eNot (eCallS 1 m_law_plain (aCons (eW 13) aNil))))) (sRet (eC (.bl false))) sNx)
  (sSeq (sSet 14 (eU gList (eW 13)))
  (sSeq (sIf (eOr (eB gNe (eCall 1 m_begins (aCons (eV 2) aNil)) (eCall 1 m_law_begins (aCons (eV 2) aNil))) (eB gNe (eW 13) (eW 14))) (sRet (eC (.bl false))) sNx)
  (sSeq (sClr 13)
  (sSeq (sIf (eB gNe (eCall 1 m_begins (aCons (eV 1) aNil)) (eW 14)) (sRet (eC (.bl false))) sNx)
  (sSeq (sSet 12 (eCall 3 m_looked (aCons (eV 1) (aCons (eV 2) (aCons (eV 3) aNil)))))
  (sRet (eAnd (eCall 4 m_law_right (aCons (eV 1) (aCons (eV 9) (aCons (eV 12) (aCons (eV 10) aNil))))) (eB gEq (eW 11) (eLst (aCons (eB gIx (eW 1) (eC (.int 2))) (aCons (eB gIx (eW 2) (eC (.int 2))) (aCons (eV 3) aNil))))))))))))))))))))))))
def m_law : Mir := fDef 15 b_law
theorem sc_law : FnScope ["_law_script", "_law_one", "_law_two", "_law_places_here", "_law_odd", "_law_way", "_law_asked", "_law_strange", "_law_due", "_law_rules_here", "_law_is_safe_here", "_law_kept", "_law_found", "_law_told", "_law_held"] ["_law_script"] (defScope s_law) := ⟨rfl, rfl, rfl, by decide +kernel, rfl, by decide +kernel, by decide +kernel⟩
theorem fn_law (T : Tx w K mg) {f : Addr} {fd : FuncData} (F : Fun K "law" "law" s_law f fd) (O_law_begins : Ok P0 w K mg base 1 "_law_begins" 1 m_law_begins) (O_law_cell_at : Ok P0 w K mg base 1 "_law_cell_at" 2 m_law_cell_at) (O_law_is_safe : Ok P0 w K mg base 4 "_law_is_safe" 2 m_law_is_safe) (O_law_odd_place : Ok P0 w K mg base 1 "_law_odd_place" 4 m_law_odd_place) (O_law_places : Ok P0 w K mg base 2 "_law_places" 3 m_law_places) (O_law_plain : Ok P0 w K mg base 9 "_law_plain" 1 m_law_plain) (O_law_program : Ok P0 w K mg base 2 "_law_program" 1 m_law_program) (O_law_right : Ok P0 w K mg base 10 "_law_right" 4 m_law_right) (O_law_rules : Ok P0 w K mg base 1 "_law_rules" 1 m_law_rules) (O_law_word : Ok P0 w K mg base 8 "_law_word" 3 m_law_word) (O_begins : OkN P0 w K mg base 5 "begins" 1 m_begins) (O_looked : Ok P0 w K mg base 7 "looked" 3 m_looked) : FnOk P0 w K mg base (L2.CX P0 w) 11 f fd ["_law_script"] (spD ⟨K, mg⟩ 1 m_law) :=
  def_ok (N := ["_law_script", "_law_one", "_law_two", "_law_places_here", "_law_odd", "_law_way", "_law_asked", "_law_strange", "_law_due", "_law_rules_here", "_law_is_safe_here", "_law_kept", "_law_found", "_law_told", "_law_held"]) (fs := b_law) F sc_law rfl fun cdv A outer s H G E hr =>
    (ss_cons (st_set (i := 1) sc_law.nd rfl (by first | exact Or.inl rfl | exact Or.inr rfl) (d_callO O_law_program (hr.mono (by decide)) (by rfl) (tk_of (takes_of rfl rfl rfl rfl)) (a_consE (d_callO O_law_cell_at (hr.mono (by decide)) (by rfl) (tk_of (takes_of rfl rfl rfl rfl)) (a_consE (d_v 0) (a_consE d_int a_nil))) a_nil)))
    (ss_cons (st_set (i := 2) sc_law.nd rfl (by first | exact Or.inl rfl | exact Or.inr rfl) (d_callO O_law_program (hr.mono (by decide)) (by rfl) (tk_of (takes_of rfl rfl rfl rfl)) (a_consE (d_callO O_law_cell_at (hr.mono (by decide)) (by rfl) (tk_of (takes_of rfl rfl rfl rfl)) (a_consE (d_v 0) (a_consE d_int a_nil))) a_nil)))
    (ss_cons (st_set (i := 3) sc_law.nd rfl (by first | exact Or.inl rfl | exact Or.inr rfl) (d_callO O_law_places (hr.mono (by decide)) (by rfl) (tk_of (takes_of rfl rfl rfl rfl)) (a_consE (d_callO O_law_cell_at (hr.mono (by decide)) (by rfl) (tk_of (takes_of rfl rfl rfl rfl)) (a_consE (d_v 0) (a_consE d_int a_nil))) (a_consE (d_v 1) (a_consE (d_v 2) a_nil)))))
    (ss_cons (st_if (t_cmp (o_eq hr.units) (d_S (d_op o_mod (d_S (d_callO O_law_cell_at (hr.mono (by decide)) (by rfl) (tk_of (takes_of rfl rfl rfl rfl)) (a_consE (d_v 0) (a_consE d_int a_nil)))) (d_S d_int))) (d_S d_int) (nomark _)) (ss_one (st_set (i := 3) sc_law.nd rfl (by first | exact Or.inl rfl | exact Or.inr rfl) (d_sl (d_w 3) o_none (o_some (d_op o_mod (d_S (d_op o_div (d_S (d_callO O_law_cell_at (hr.mono (by decide)) (by rfl) (tk_of (takes_of rfl rfl rfl rfl)) (a_consE (d_v 0) (a_consE d_int a_nil)))) (d_S d_int))) (d_S d_int)))))) ss_nil)
    (ss_cons (st_if (t_cmp (o_eq hr.units) (d_S (d_op o_mod (d_S (d_callO O_law_cell_at (hr.mono (by decide)) (by rfl) (tk_of (takes_of rfl rfl rfl rfl)) (a_consE (d_v 0) (a_consE d_int a_nil)))) (d_S d_int))) (d_S d_int) (nomark _)) (ss_cons (st_set (i := 4) sc_law.nd rfl (by first | exact Or.inl rfl | exact Or.inr rfl) (d_NE (d_lst (a_consE (d_tup (a_consE d_int (a_consE d_int (a_consE (d_NE (d_lst (a_consE (d_tup (a_consE d_str (a_consE d_int a_nil))) a_nil))) a_nil)))) (a_consE d_non (a_consE (d_tup (a_consE (d_ix (d_w 1) (d_S d_int)) (a_consE (d_ix (d_w 1) (d_S d_int)) (a_consE (d_NE (d_lst a_nil)) a_nil)))) (a_consE (d_tup (a_consE d_int (a_consE (d_ix (d_w 1) (d_S d_int)) (a_consE (d_ix (d_w 1) (d_S d_int)) a_nil)))) (a_consE (d_tup (a_consE (d_ix (d_w 1) (d_S d_int)) (a_consE d_int (a_consE (d_ix (d_w 1) (d_S d_int)) a_nil)))) a_nil))))))))
    (ss_cons (st_set (i := 4) sc_law.nd rfl (by first | exact Or.inl rfl | exact Or.inr rfl) (d_op o_add (d_w 4) (d_NS (d_lst (a_consE (d_tup (a_consE (d_ix (d_w 1) (d_S d_int)) (a_consE (d_ix (d_w 1) (d_S d_int)) (a_consE (d_op o_add (d_S (d_ix (d_w 1) (d_S d_int))) (d_NS (d_lst (a_consE (d_tup (a_consE d_str (a_consE d_int a_nil))) a_nil)))) a_nil)))) (a_consE (d_tup (a_consE (d_ix (d_w 1) (d_S d_int)) (a_consE (d_ix (d_w 1) (d_S d_int)) (a_consE (d_cT c_tuple (by rfl) T.n_tuple (by decide +kernel) (d_S (d_ix (d_w 1) (d_S d_int)))) a_nil)))) a_nil))))))
    (ss_cons (st_set (i := 4) sc_law.nd rfl (by first | exact Or.inl rfl | exact Or.inr rfl) (d_ix (d_S (d_op o_add (d_w 4) (d_NS (d_lst (a_consE (d_tup (a_consE (d_ix (d_w 1) (d_S d_int)) (a_consE (d_ix (d_w 1) (d_S d_int)) (a_consE (d_op o_add (d_S (d_sl (d_S (d_ix (d_w 1) (d_S d_int))) (o_some d_int) o_none)) (d_NS (d_lst (a_consE (d_tup (a_consE d_str (a_consE d_int a_nil))) a_nil)))) a_nil)))) a_nil))))) (d_S (d_op o_mod (d_S (d_op o_div (d_S (d_callO O_law_cell_at (hr.mono (by decide)) (by rfl) (tk_of (takes_of rfl rfl rfl rfl)) (a_consE (d_v 0) (a_consE d_int a_nil)))) (d_S d_int))) (d_S d_int)))))
    (ss_cons (st_set (i := 5) sc_law.nd rfl (by first | exact Or.inl rfl | exact Or.inr rfl) (d_op o_mod (d_S (d_op o_div (d_S (d_callO O_law_cell_at (hr.mono (by decide)) (by rfl) (tk_of (takes_of rfl rfl rfl rfl)) (a_consE (d_v 0) (a_consE d_int a_nil)))) (d_S d_int))) (d_S d_int)))
    (ss_cons (st_set (i := 6) sc_law.nd rfl (by first | exact Or.inl rfl | exact Or.inr rfl) (d_NE (d_lst (a_consE (d_tup (a_consE (d_v 4) (a_consE (d_v 2) (a_consE (d_v 3) a_nil)))) (a_consE (d_tup (a_consE (d_v 1) (a_consE (d_v 4) (a_consE (d_v 3) a_nil)))) (a_consE (d_tup (a_consE (d_v 4) (a_consE (d_v 2) (a_consE d_non a_nil)))) a_nil))))))
    (ss_cons (st_set (i := 7) sc_law.nd rfl (by first | exact Or.inl rfl | exact Or.inr rfl) (d_callO O_law_odd_place (hr.mono (by decide)) (by rfl) (tk_of (takes_of rfl rfl rfl rfl)) (a_consE (d_v 1) (a_consE (d_v 2) (a_consE (d_v 3) (a_consE (d_op o_div (d_S (d_callO O_law_cell_at (hr.mono (by decide)) (by rfl) (tk_of (takes_of rfl rfl rfl rfl)) (a_consE (d_v 0) (a_consE d_int a_nil)))) (d_S d_int)) a_nil))))))
    (ss_cons (st_set (i := 6) sc_law.nd rfl (by first | exact Or.inl rfl | exact Or.inr rfl) (d_ix (d_S (d_op o_add (d_w 6) (d_NS (d_lst (a_consE (d_tup (a_consE (d_v 1) (a_consE (d_v 4) (a_consE (d_NE (d_lst (a_consE d_non a_nil))) a_nil)))) (a_consE (d_tup (a_consE (d_v 1) (a_consE (d_v 2) (a_consE (d_op o_add (d_w 3) (d_NS (d_lst (a_consE (d_v 7) a_nil)))) a_nil)))) a_nil)))))) (d_w 5)))
    (ss_cons (st_set (i := 8) sc_law.nd rfl (by first | exact Or.inl rfl | exact Or.inr rfl) (d_NE (d_lst (a_consE (d_ix (d_NS (d_lst (a_consE d_str (a_consE d_str a_nil)))) (d_S (d_cT c_int (by rfl) T.n_int (by decide +kernel) (d_S (d_cmp (o_eq hr.units) (d_w 5) (d_S d_int) (nomark _)))))) (a_consE d_str a_nil)))))
    (ss_one (st_ret (d_cmp (o_eq hr.units) (d_S (d_callO O_law_word (hr.mono (by decide)) (by rfl) (tk_of (takes_of rfl rfl rfl rfl)) (a_consE (d_ix (d_w 6) (d_S d_int)) (a_consE (d_ix (d_w 6) (d_S d_int)) (a_consE (d_ix (d_w 6) (d_S d_int)) a_nil))))) (d_w 8) (nomark _)))))))))))) ss_nil)
    (ss_cons (st_set (i := 9) sc_law.nd rfl (by first | exact Or.inl rfl | exact Or.inr rfl) (d_callO O_law_rules (hr.mono (by decide)) (by rfl) (tk_of (takes_of rfl rfl rfl rfl)) (a_consE (d_v 3) a_nil)))
    (ss_cons (st_set (i := 10) sc_law.nd rfl (by first | exact Or.inl rfl | exact Or.inr rfl) (d_callO O_law_is_safe (hr.mono (by decide)) (by rfl) (tk_of (takes_of rfl rfl rfl rfl)) (a_consE (d_v 1) (a_consE (d_v 9) a_nil))))
    (ss_cons (st_set (i := 11) sc_law.nd rfl (by first | exact Or.inl rfl | exact Or.inr rfl) (d_NE (d_lst (a_consE (d_NE (d_cT c_list (by rfl) T.n_list (by decide +kernel) (d_S (d_ix (d_w 1) (d_S d_int))))) (a_consE (d_NE (d_cT c_list (by rfl) T.n_list (by decide +kernel) (d_S (d_ix (d_w 2) (d_S d_int))))) (a_consE (d_NE (d_cT c_list (by rfl) T.n_list (by decide +kernel) (d_w 3))) a_nil))))))
    (ss_cons (st_set (i := 12) sc_law.nd rfl (by first | exact Or.inl rfl | exact Or.inr rfl) (d_callO O_looked (hr.mono (by decide)) (by rfl) (tk_of (takes_of rfl rfl rfl rfl)) (a_consE (d_v 1) (a_consE (d_v 2) (a_consE (d_v 3) a_nil)))))
    (ss_cons (st_if (t_not (t_val (d_callO O_law_right (hr.mono (by decide)) (by rfl) (tk_of (takes_of rfl rfl rfl rfl)) (a_consE (d_v 1) (a_consE (d_v 9) (a_consE (d_v 12) (a_consE (d_v 10) a_nil))))))) (ss_one (st_ret d_bl)) ss_nil)
    (ss_cons (st_new (i := 13) sc_law.nd rfl (by first | exact Or.inl rfl | exact Or.inr rfl) (d_callN O_begins (hr.mono (by decide)) (by rfl) (tk_of (takes_of rfl rfl rfl rfl)) (a_consE (d_v 1) a_nil)))
    (ss_cons (st_if (t_w (w_or (t_not (t_val (d_isi (by rfl) T.n_isinstance (d_w 13) (by rfl) T.n_list (by decide +kernel)))) (w_or (t_cmp (o_ne hr.units) (d_w 13) (d_S (d_callO O_law_begins (hr.mono (by decide)) (by rfl) (tk_of (takes_of rfl rfl rfl rfl)) (a_consE (d_v 1) a_nil))) (nomark _)) (w_or1 (t_not (t_val (d_callOS O_law_plain (hr.mono (by decide)) (by rfl) (tk_of (takes_of rfl rfl rfl rfl)) (a_consS (d_w 13) a_nil)))))))) (ss_one (st_ret d_bl)) ss_nil)
    (ss_cons (st_set (i := 14) sc_law.nd rfl (by first | exact Or.inl rfl | exact Or.inr rfl) (d_NE (d_cT c_list (by rfl) T.n_list (by decide +kernel) (d_w 13))))
    (ss_cons (st_if (t_w (w_or (t_cmp (o_ne hr.units) (d_NS (d_callN O_begins (hr.mono (by decide)) (by rfl) (tk_of (takes_of rfl rfl rfl rfl)) (a_consE (d_v 2) a_nil))) (d_S (d_callO O_law_begins (hr.mono (by decide)) (by rfl) (tk_of (takes_of rfl rfl rfl rfl)) (a_consE (d_v 2) a_nil))) (nomark _)) (w_or1 (t_cmp (o_ne hr.units) (d_w 13) (d_w 14) (nomark _))))) (ss_one (st_ret d_bl)) ss_nil)
    (ss_cons (st_clr 13 rfl (by first | exact Or.inl rfl | exact Or.inr (Or.inl rfl)) (pe_bm0 PySem.F.plainAttrs_list PySem.F.slot_list_clear PySem.F.type_list_clear mt_clear (pv 13)))
    (ss_cons (st_if (t_cmp (o_ne hr.units) (d_NS (d_callN O_begins (hr.mono (by decide)) (by rfl) (tk_of (takes_of rfl rfl rfl rfl)) (a_consE (d_v 1) a_nil))) (d_w 14) (nomark _)) (ss_one (st_ret d_bl)) ss_nil)
    (ss_cons (st_set (i := 12) sc_law.nd rfl (by first | exact Or.inl rfl | exact Or.inr rfl) (d_callO O_looked (hr.mono (by decide)) (by rfl) (tk_of (takes_of rfl rfl rfl rfl)) (a_consE (d_v 1) (a_consE (d_v 2) (a_consE (d_v 3) a_nil)))))
    (ss_one (st_ret (d_and (d_callO O_law_right (hr.mono (by decide)) (by rfl) (tk_of (takes_of rfl rfl rfl rfl)) (a_consE (d_v 1) (a_consE (d_v 9) (a_consE (d_v 12) (a_consE (d_v 10) a_nil))))) (d_one (d_cmp (o_eq hr.units) (d_w 11) (d_NS (d_lst (a_consE (d_ix (d_w 1) (d_S d_int)) (a_consE (d_ix (d_w 2) (d_S d_int)) (a_consE (d_v 3) a_nil))))) (nomark _)))))))))))))))))))))))
end
end K08

namespace K08
open PySem PySem.Spec PyProof.Rows L2 Evl VS
def d_law_begins : He.DefD := ⟨("_law_begins", none), "_law_begins", "_law_begins", defArgs s_law_begins, defBody s_law_begins, defScope s_law_begins, [], []⟩
def d_law_cell_at : He.DefD := ⟨("_law_cell_at", none), "_law_cell_at", "_law_cell_at", defArgs s_law_cell_at, defBody s_law_cell_at, defScope s_law_cell_at, [], []⟩
def d_law_turned : He.DefD := ⟨("_law_turned", none), "_law_turned", "_law_turned", defArgs s_law_turned, defBody s_law_turned, defScope s_law_turned, [], []⟩
def d_law_gone_back : He.DefD := ⟨("_law_gone_back", none), "_law_gone_back", "_law_gone_back", defArgs s_law_gone_back, defBody s_law_gone_back, defScope s_law_gone_back, [], []⟩
def d_law_put : He.DefD := ⟨("_law_put", none), "_law_put", "_law_put", defArgs s_law_put, defBody s_law_put, defScope s_law_put, [], []⟩
def d_law_step : He.DefD := ⟨("_law_step", none), "_law_step", "_law_step", defArgs s_law_step, defBody s_law_step, defScope s_law_step, [], []⟩
def d_law_met : He.DefD := ⟨("_law_met", none), "_law_met", "_law_met", defArgs s_law_met, defBody s_law_met, defScope s_law_met, [], []⟩
def d_law_is_safe : He.DefD := ⟨("_law_is_safe", none), "_law_is_safe", "_law_is_safe", defArgs s_law_is_safe, defBody s_law_is_safe, defScope s_law_is_safe, [], []⟩
def d_law_odd_place : He.DefD := ⟨("_law_odd_place", none), "_law_odd_place", "_law_odd_place", defArgs s_law_odd_place, defBody s_law_odd_place, defScope s_law_odd_place, [], []⟩
def d_law_next : He.DefD := ⟨("_law_next", none), "_law_next", "_law_next", defArgs s_law_next, defBody s_law_next, defScope s_law_next, [], []⟩
def d_law_rule : He.DefD := ⟨("_law_rule", none), "_law_rule", "_law_rule", defArgs s_law_rule, defBody s_law_rule, defScope s_law_rule, [], []⟩
def d_law_places : He.DefD := ⟨("_law_places", none), "_law_places", "_law_places", defArgs s_law_places, defBody s_law_places, defScope s_law_places, [], []⟩
def d_law_plain : He.DefD := ⟨("_law_plain", none), "_law_plain", "_law_plain", defArgs s_law_plain, defBody s_law_plain, defScope s_law_plain, [], []⟩
def d_law_row : He.DefD := ⟨("_law_row", none), "_law_row", "_law_row", defArgs s_law_row, defBody s_law_row, defScope s_law_row, [], []⟩
def d_law_program : He.DefD := ⟨("_law_program", none), "_law_program", "_law_program", defArgs s_law_program, defBody s_law_program, defScope s_law_program, [], []⟩
def d_law_states : He.DefD := ⟨("_law_states", none), "_law_states", "_law_states", defArgs s_law_states, defBody s_law_states, defScope s_law_states, [], []⟩
def d_law_right : He.DefD := ⟨("_law_right", none), "_law_right", "_law_right", defArgs s_law_right, defBody s_law_right, defScope s_law_right, [], []⟩
def d_law_rules : He.DefD := ⟨("_law_rules", none), "_law_rules", "_law_rules", defArgs s_law_rules, defBody s_law_rules, defScope s_law_rules, [], []⟩
def d_whole : He.DefD := ⟨("whole", none), "whole", "whole", defArgs s_whole, defBody s_whole, defScope s_whole, [], []⟩
def d_is_row : He.DefD := ⟨("is_row", none), "is_row", "is_row", defArgs s_is_row, defBody s_is_row, defScope s_is_row, [], []⟩
def d_is_program : He.DefD := ⟨("is_program", none), "is_program", "is_program", defArgs s_is_program, defBody s_is_program, defScope s_is_program, [], []⟩
def d_need_program : He.DefD := ⟨("need_program", none), "need_program", "need_program", defArgs s_need_program, defBody s_need_program, defScope s_need_program, [], []⟩
def d_begins : He.DefD := ⟨("begins", none), "begins", "begins", defArgs s_begins, defBody s_begins, defScope s_begins, [], []⟩
def d_by_row : He.DefD := ⟨("by_row", none), "by_row", "by_row", defArgs s_by_row, defBody s_by_row, defScope s_by_row, [], []⟩
def d_is_worth : He.DefD := ⟨("is_worth", none), "is_worth", "is_worth", defArgs s_is_worth, defBody s_is_worth, defScope s_is_worth, [], []⟩
def d_is_rule : He.DefD := ⟨("is_rule", none), "is_rule", "is_rule", defArgs s_is_rule, defBody s_is_rule, defScope s_is_rule, [], []⟩
def d_is_place : He.DefD := ⟨("is_place", none), "is_place", "is_place", defArgs s_is_place, defBody s_is_place, defScope s_is_place, [], []⟩
def d_is_places : He.DefD := ⟨("is_places", none), "is_places", "is_places", defArgs s_is_places, defBody s_is_places, defScope s_is_places, [], []⟩
def d_need_places : He.DefD := ⟨("need_places", none), "need_places", "need_places", defArgs s_need_places, defBody s_need_places, defScope s_need_places, [], []⟩
def d_worth : He.DefD := ⟨("worth", none), "worth", "worth", defArgs s_worth, defBody s_worth, defScope s_worth, [], []⟩
def d_turned : He.DefD := ⟨("turned", none), "turned", "turned", defArgs s_turned, defBody s_turned, defScope s_turned, [], []⟩
def d_is_stuck : He.DefD := ⟨("is_stuck", none), "is_stuck", "is_stuck", defArgs s_is_stuck, defBody s_is_stuck, defScope s_is_stuck, [], []⟩
def d_replaced : He.DefD := ⟨("replaced", none), "replaced", "replaced", defArgs s_replaced, defBody s_replaced, defScope s_replaced, [], []⟩
def d_written : He.DefD := ⟨("written", none), "written", "written", defArgs s_written, defBody s_written, defScope s_written, [], []⟩
def d_stepped : He.DefD := ⟨("stepped", none), "stepped", "stepped", defArgs s_stepped, defBody s_stepped, defScope s_stepped, [], []⟩
def d_unsafe_run : He.DefD := ⟨("unsafe_run", none), "unsafe_run", "unsafe_run", defArgs s_unsafe_run, defBody s_unsafe_run, defScope s_unsafe_run, [], []⟩
def d_looked : He.DefD := ⟨("looked", none), "looked", "looked", defArgs s_looked, defBody s_looked, defScope s_looked, [], []⟩
def d_law_word : He.DefD := ⟨("_law_word", none), "_law_word", "_law_word", defArgs s_law_word, defBody s_law_word, defScope s_law_word, [], []⟩
def d_law : He.DefD := ⟨("law", none), "law", "law", defArgs s_law, defBody s_law, defScope s_law, [], []⟩
def fns : List He.DefD := [d_law_begins, d_law_cell_at, d_law_turned, d_law_gone_back, d_law_put, d_law_step, d_law_met, d_law_is_safe, d_law_odd_place, d_law_next, d_law_rule, d_law_places, d_law_plain, d_law_row, d_law_program, d_law_states, d_law_right, d_law_rules, d_whole, d_is_row, d_is_program, d_need_program, d_begins, d_by_row, d_is_worth, d_is_rule, d_is_place, d_is_places, d_need_places, d_worth, d_turned, d_is_stuck, d_replaced, d_written, d_stepped, d_unsafe_run, d_looked, d_law_word, d_law]
def fas : List He.Fa := [.free "ValueError", .free "all", .free "any", .free "bool", .free "enumerate", .free "int", .free "isinstance", .free "len", .free "list", .free "range", .free "str", .free "tuple", .free "type", .int "MOST_BOXES" 3, .int "HIGHEST_MOST" 4, .int "MOST_ROWS" 20, .int "MOST_PLACES" 20, .glo "PARTS", .glo "BadPlaces", .exc "BadPlaces", .glo "BadProgram", .exc "BadProgram", .glo "SwapError", .glo "BadState", .glo "BadCount", .glo "Busy", .glo "Over", .glo "Unsafe", .exm "BadProgram" "SwapError" true, .exm "BadPlaces" "SwapError" true, .glo "_law_begins", .glo "_law_cell_at", .glo "_law_turned", .glo "_law_gone_back", .glo "_law_put", .glo "_law_step", .glo "_law_met", .glo "_law_is_safe", .glo "_law_odd_place", .glo "_law_next", .glo "_law_rule", .glo "_law_places", .glo "_law_plain", .glo "_law_row", .glo "_law_program", .glo "_law_states", .glo "_law_right", .glo "_law_rules", .glo "whole", .glo "is_row", .glo "is_program", .glo "need_program", .glo "begins", .glo "by_row", .glo "is_worth", .glo "is_rule", .glo "is_place", .glo "is_places", .glo "need_places", .glo "worth", .glo "turned", .glo "is_stuck", .glo "replaced", .glo "written", .glo "stepped", .glo "unsafe_run", .glo "looked", .glo "_law_word", .glo "law"]
def xas : List Xa := [.tab "PARTS" tbl_PARTS miss_PARTS, .exi "BadProgram", .kit "BadProgram" "BadProgram" true, .exi "BadPlaces", .kit "BadPlaces" "BadProgram" false, .kit "BadProgram" "BadPlaces" false, .kit "BadPlaces" "BadPlaces" true, .kin "BadProgram" ["BadCount", "BadState", "Busy", "Over", "Unsafe"] false, .kin "BadPlaces" ["BadCount", "BadState", "Busy", "Over", "Unsafe"] false, .kiT "BadProgram" "ValueError" true, .kiT "BadPlaces" "ValueError" true]
def tss : List He.Tab := [(fun K => He.ga K "PARTS", ["put", "more", "copy", "tell", "go", "ask", "stop"])]
abbrev R : PySem.W.OpenRow := PySem.W.OpenLaw.row PySem.Challenge.rw_liveswap_k08_whole_looked
abbrev hk : PySem.W.Hook := He.hookX 4 fas fns tss [] (exAll xas)
def ob (s : PySem.W.SharedT) : He.AlX := He.obsX 4 fas fns tss [] (exAll xas) (HandSHeadRun.getT s)
theorem ob_eq (s : PySem.W.SharedT) : ob s = hk.obs s.abs := He.obsX_eq (HandSHeadRun.getT_eq s)
def loo0 : List Str := ["__name__", "SwapError", "BadProgram", "BadState", "BadPlaces", "BadCount", "Busy", "Over", "Unsafe", "MOST_BOXES", "HIGHEST_MOST", "MOST_ROWS", "PARTS", "whole", "is_row", "is_program", "need_program", "written", "replaced", "stepped", "MOST_PLACES", "is_worth", "is_rule", "is_place", "is_places", "need_places", "by_row", "worth", "turned", "begins"]
def loo1 : List Str := ["is_stuck", "unsafe_run", "looked", "_law_cell_at", "_law_next", "_law_row", "_law_program", "_law_rule", "_law_places", "_law_numbers", "_law_put", "_law_step", "_law_turned", "_law_begins", "_law_rules", "_law_met", "_law_gone_back", "_law_is_safe", "_law_states", "_law_plain", "_law_right", "_law_odd_place", "_law_word"]
abbrev loose : List Str := loo0 ++ loo1
abbrev lawAt : Nat := 57
theorem tx_of {w : World} {K : PySem.W.Frag} {mg : Str → Option Value} {h : Heap} (X : K.In h) (G : h.Ns mainGlobals mg) (hf : ∀ (i : Nat) (z : He.Fa), fas[i]? = some z → z.ok K = true) (hx : ∀ (i : Nat) (z : Xa), xas[i]? = some z → z.ok K = true) (ht : ∀ (i : Nat) (t : He.Tab), tss[i]? = some t → ∃ es n, KDict K w (t.1 K) es n) : Tx w K mg where
  n_ValueError := He.free_ok X G (hf 0 _ rfl)
  n_all := He.free_ok X G (hf 1 _ rfl)
  n_any := He.free_ok X G (hf 2 _ rfl)
  n_bool := He.free_ok X G (hf 3 _ rfl)
  n_enumerate := He.free_ok X G (hf 4 _ rfl)
  n_int := He.free_ok X G (hf 5 _ rfl)
  n_isinstance := He.free_ok X G (hf 6 _ rfl)
  n_len := He.free_ok X G (hf 7 _ rfl)
  n_list := He.free_ok X G (hf 8 _ rfl)
  n_range := He.free_ok X G (hf 9 _ rfl)
  n_str := He.free_ok X G (hf 10 _ rfl)
  n_tuple := He.free_ok X G (hf 11 _ rfl)
  n_type := He.free_ok X G (hf 12 _ rfl)
  i_MOST_BOXES := He.int_ok X G (hf 13 _ rfl)
  i_HIGHEST_MOST := He.int_ok X G (hf 14 _ rfl)
  i_MOST_ROWS := He.int_ok X G (hf 15 _ rfl)
  i_MOST_PLACES := He.int_ok X G (hf 16 _ rfl)
  g_PARTS := gd_of (C := ⟨K, mg⟩) X G (hf 17 _ rfl) (ht 0 _ rfl) (hx 0 _ rfl)
  r_BadPlaces := xc_of X G (hf 18 _ rfl) (hf 19 _ rfl)
  r_BadProgram := xc_of X G (hf 20 _ rfl) (hf 21 _ rfl)
  x_SwapError := cl_of X G (hf 22 _ rfl)
  x_BadProgram := cl_of X G (hf 20 _ rfl)
  x_BadState := cl_of X G (hf 23 _ rfl)
  x_BadPlaces := cl_of X G (hf 18 _ rfl)
  x_BadCount := cl_of X G (hf 24 _ rfl)
  x_Busy := cl_of X G (hf 25 _ rfl)
  x_Over := cl_of X G (hf 26 _ rfl)
  x_Unsafe := cl_of X G (hf 27 _ rfl)
  c_is0_law_word := fk_of X G (hf 20 _ rfl) (fun y b s => by
    unfold is0_law_word at s
    split at s
    next e => subst e; cases s; exact ⟨(hf 20 _ rfl), (hx 1 _ rfl), (hx 2 _ rfl)⟩
    split at s
    next e => subst e; cases s; exact ⟨(hf 18 _ rfl), (hx 3 _ rfl), (hx 4 _ rfl)⟩
    cases s)
  c_is1_law_word := fk_of X G (hf 18 _ rfl) (fun y b s => by
    unfold is1_law_word at s
    split at s
    next e => subst e; cases s; exact ⟨(hf 20 _ rfl), (hx 1 _ rfl), (hx 5 _ rfl)⟩
    split at s
    next e => subst e; cases s; exact ⟨(hf 18 _ rfl), (hx 3 _ rfl), (hx 6 _ rfl)⟩
    cases s)
  c_is2_law_word := fkN_of X G (List.forall_mem_cons.mpr ⟨(hf 24 _ rfl), (List.forall_mem_cons.mpr ⟨(hf 23 _ rfl), (List.forall_mem_cons.mpr ⟨(hf 25 _ rfl), (List.forall_mem_cons.mpr ⟨(hf 26 _ rfl), (List.forall_mem_cons.mpr ⟨(hf 27 _ rfl), (fun _ m => nomatch m)⟩)⟩)⟩)⟩)⟩) (fun y b s => by
    unfold is2_law_word at s
    split at s
    next e => subst e; cases s; exact ⟨(hf 20 _ rfl), (hx 1 _ rfl), (hx 7 _ rfl)⟩
    split at s
    next e => subst e; cases s; exact ⟨(hf 18 _ rfl), (hx 3 _ rfl), (hx 8 _ rfl)⟩
    cases s)
  c_is3_law_word := fkT_of X G (fun y b s => by
    unfold is3_law_word at s
    split at s
    next e => subst e; cases s; exact ⟨(hf 20 _ rfl), (hx 1 _ rfl), (hx 9 _ rfl)⟩
    split at s
    next e => subst e; cases s; exact ⟨(hf 18 _ rfl), (hx 3 _ rfl), (hx 10 _ rfl)⟩
    cases s)
  e_tr4_law_word := fx_of X G (hf 22 _ rfl) (fun y b s => by
    unfold tr4_law_word at s
    split at s
    next e => subst e; cases s; exact ⟨(hf 20 _ rfl), (hf 28 _ rfl)⟩
    split at s
    next e => subst e; cases s; exact ⟨(hf 18 _ rfl), (hf 29 _ rfl)⟩
    cases s)
theorem ok_all {w : World} {K : PySem.W.Frag} {mg : Str → Option Value} {h base : Heap} (X : K.In h) (G : h.Ns mainGlobals mg) (hf : ∀ (i : Nat) (z : He.Fa), fas[i]? = some z → z.ok K = true) (hx : ∀ (i : Nat) (z : Xa), xas[i]? = some z → z.ok K = true) (ht : ∀ (i : Nat) (t : He.Tab), tss[i]? = some t → ∃ es n, KDict K w (t.1 K) es n)
    (hd : ∀ (i : Nat) (d : He.DefD), fns[i]? = some d → ∃ fd, FunD K d.name d.qual d.params d.body d.scope (d.dvs K) (d.kws K) (He.fAd K d.at_) fd) {f : Addr} {fd : FuncData} (FL : Fun K "law" "law" s_law f fd) : FnOk P0 w K mg base (L2.CX P0 w) 11 f fd ["_law_script"] (spD ⟨K, mg⟩ 1 m_law) := by
  have T : Tx w K mg := tx_of X G hf hx ht
  have A_law_begins : At K mg "_law_begins" s_law_begins ["_law_program_here"] := at_of X G (hf 30 _ rfl) (hd 0 d_law_begins rfl) fun _ _ _ _ _ _ us hl => match us, hl with | [_], _ => rfl
  have O_law_begins : Ok P0 w K mg base 1 "_law_begins" 1 m_law_begins := ok_law_begins T A_law_begins
  have A_law_cell_at : At K mg "_law_cell_at" s_law_cell_at ["_law_script", "_law_k"] := at_of X G (hf 31 _ rfl) (hd 1 d_law_cell_at rfl) fun _ _ _ _ _ _ us hl => match us, hl with | [_, _], _ => rfl
  have O_law_cell_at : Ok P0 w K mg base 1 "_law_cell_at" 2 m_law_cell_at := ok_law_cell_at T A_law_cell_at
  have A_law_turned : At K mg "_law_turned" s_law_turned ["_law_rules_here", "_law_numbers_here"] := at_of X G (hf 32 _ rfl) (hd 2 d_law_turned rfl) fun _ _ _ _ _ _ us hl => match us, hl with | [_, _], _ => rfl
  have O_law_turned : Ok P0 w K mg base 1 "_law_turned" 2 m_law_turned := ok_law_turned T A_law_turned
  have A_law_gone_back : At K mg "_law_gone_back" s_law_gone_back ["_law_rules_here", "_law_path", "_law_word_here", "_law_known"] := at_of X G (hf 33 _ rfl) (hd 3 d_law_gone_back rfl) fun _ _ _ _ _ _ us hl => match us, hl with | [_, _, _, _], _ => rfl
  have O_law_gone_back : OkB P0 w K mg base 2 "_law_gone_back" 4 3 m_law_gone_back := ok_law_gone_back T A_law_gone_back O_law_turned
  have A_law_put : At K mg "_law_put" s_law_put ["_law_numbers_here", "_law_box", "_law_number"] := at_of X G (hf 34 _ rfl) (hd 4 d_law_put rfl) fun _ _ _ _ _ _ us hl => match us, hl with | [_, _, _], _ => rfl
  have O_law_put : Ok P0 w K mg base 1 "_law_put" 3 m_law_put := ok_law_put T A_law_put
  have A_law_step : At K mg "_law_step" s_law_step ["_law_program_here", "_law_state"] := at_of X G (hf 35 _ rfl) (hd 5 d_law_step rfl) fun _ _ _ _ _ _ us hl => match us, hl with | [_, _], _ => rfl
  have O_law_step : Ok P0 w K mg base 2 "_law_step" 2 m_law_step := ok_law_step T A_law_step O_law_put
  have A_law_met : At K mg "_law_met" s_law_met ["_law_one", "_law_rules_here", "_law_state"] := at_of X G (hf 36 _ rfl) (hd 6 d_law_met rfl) fun _ _ _ _ _ _ us hl => match us, hl with | [_, _, _], _ => rfl
  have O_law_met : Ok P0 w K mg base 3 "_law_met" 3 m_law_met := ok_law_met T A_law_met O_law_step O_law_turned
  have A_law_is_safe : At K mg "_law_is_safe" s_law_is_safe ["_law_one", "_law_rules_here"] := at_of X G (hf 37 _ rfl) (hd 7 d_law_is_safe rfl) fun _ _ _ _ _ _ us hl => match us, hl with | [_, _], _ => rfl
  have O_law_is_safe : Ok P0 w K mg base 4 "_law_is_safe" 2 m_law_is_safe := ok_law_is_safe T A_law_is_safe O_law_begins O_law_gone_back O_law_met O_law_step
  have A_law_odd_place : At K mg "_law_odd_place" s_law_odd_place ["_law_one", "_law_two", "_law_places_here", "_law_cell"] := at_of X G (hf 38 _ rfl) (hd 8 d_law_odd_place rfl) fun _ _ _ _ _ _ us hl => match us, hl with | [_, _, _, _], _ => rfl
  have O_law_odd_place : Ok P0 w K mg base 1 "_law_odd_place" 4 m_law_odd_place := ok_law_odd_place T A_law_odd_place
  have A_law_next : At K mg "_law_next" s_law_next ["_law_seed"] := at_of X G (hf 39 _ rfl) (hd 9 d_law_next rfl) fun _ _ _ _ _ _ us hl => match us, hl with | [_], _ => rfl
  have O_law_next : Ok P0 w K mg base 1 "_law_next" 1 m_law_next := ok_law_next T A_law_next
  have A_law_rule : At K mg "_law_rule" s_law_rule ["_law_seed", "_law_one", "_law_two"] := at_of X G (hf 40 _ rfl) (hd 10 d_law_rule rfl) fun _ _ _ _ _ _ us hl => match us, hl with | [_, _, _], _ => rfl
  have O_law_rule : Ok P0 w K mg base 1 "_law_rule" 3 m_law_rule := ok_law_rule T A_law_rule
  have A_law_places : At K mg "_law_places" s_law_places ["_law_cell", "_law_one", "_law_two"] := at_of X G (hf 41 _ rfl) (hd 11 d_law_places rfl) fun _ _ _ _ _ _ us hl => match us, hl with | [_, _, _], _ => rfl
  have O_law_places : Ok P0 w K mg base 2 "_law_places" 3 m_law_places := ok_law_places T A_law_places O_law_next O_law_rule
  have A_law_plain : At K mg "_law_plain" s_law_plain ["_law_thing"] := at_of X G (hf 42 _ rfl) (hd 12 d_law_plain rfl) fun _ _ _ _ _ _ us hl => match us, hl with | [_], _ => rfl
  have O_law_plain : Ok P0 w K mg base 9 "_law_plain" 1 m_law_plain := ok_law_plain T A_law_plain
  have A_law_row : At K mg "_law_row" s_law_row ["_law_seed", "_law_boxes", "_law_most", "_law_many"] := at_of X G (hf 43 _ rfl) (hd 13 d_law_row rfl) fun _ _ _ _ _ _ us hl => match us, hl with | [_, _, _, _], _ => rfl
  have O_law_row : Ok P0 w K mg base 1 "_law_row" 4 m_law_row := ok_law_row T A_law_row
  have A_law_program : At K mg "_law_program" s_law_program ["_law_cell"] := at_of X G (hf 44 _ rfl) (hd 14 d_law_program rfl) fun _ _ _ _ _ _ us hl => match us, hl with | [_], _ => rfl
  have O_law_program : Ok P0 w K mg base 2 "_law_program" 1 m_law_program := ok_law_program T A_law_program O_law_next O_law_row
  have A_law_states : At K mg "_law_states" s_law_states ["_law_program_here"] := at_of X G (hf 45 _ rfl) (hd 15 d_law_states rfl) fun _ _ _ _ _ _ us hl => match us, hl with | [_], _ => rfl
  have O_law_states : Ok P0 w K mg base 1 "_law_states" 1 m_law_states := ok_law_states T A_law_states
  have A_law_right : At K mg "_law_right" s_law_right ["_law_one", "_law_rules_here", "_law_found", "_law_is_safe_here"] := at_of X G (hf 46 _ rfl) (hd 16 d_law_right rfl) fun _ _ _ _ _ _ us hl => match us, hl with | [_, _, _, _], _ => rfl
  have O_law_right : Ok P0 w K mg base 10 "_law_right" 4 m_law_right := ok_law_right T A_law_right O_law_begins O_law_met O_law_plain O_law_states O_law_step
  have A_law_rules : At K mg "_law_rules" s_law_rules ["_law_places_here"] := at_of X G (hf 47 _ rfl) (hd 17 d_law_rules rfl) fun _ _ _ _ _ _ us hl => match us, hl with | [_], _ => rfl
  have O_law_rules : Ok P0 w K mg base 1 "_law_rules" 1 m_law_rules := ok_law_rules T A_law_rules
  have A_whole : At K mg "whole" s_whole ["thing", "low", "high"] := at_of X G (hf 48 _ rfl) (hd 18 d_whole rfl) fun _ _ _ _ _ _ us hl => match us, hl with | [_, _, _], _ => rfl
  have O_whole : Ok P0 w K mg base 1 "whole" 3 m_whole := ok_whole T A_whole
  have A_is_row : At K mg "is_row" s_is_row ["thing", "boxes", "most", "many"] := at_of X G (hf 49 _ rfl) (hd 19 d_is_row rfl) fun _ _ _ _ _ _ us hl => match us, hl with | [_, _, _, _], _ => rfl
  have O_is_row : Ok P0 w K mg base 2 "is_row" 4 m_is_row := ok_is_row T A_is_row O_whole
  have A_is_program : At K mg "is_program" s_is_program ["thing"] := at_of X G (hf 50 _ rfl) (hd 20 d_is_program rfl) fun _ _ _ _ _ _ us hl => match us, hl with | [_], _ => rfl
  have O_is_program : Ok P0 w K mg base 3 "is_program" 1 m_is_program := ok_is_program T A_is_program O_is_row O_whole
  have A_need_program : At K mg "need_program" s_need_program ["thing"] := at_of X G (hf 51 _ rfl) (hd 21 d_need_program rfl) fun _ _ _ _ _ _ us hl => match us, hl with | [_], _ => rfl
  have O_need_program : Ok P0 w K mg base 4 "need_program" 1 m_need_program := ok_need_program T A_need_program O_is_program
  have A_begins : At K mg "begins" s_begins ["program"] := at_of X G (hf 52 _ rfl) (hd 22 d_begins rfl) fun _ _ _ _ _ _ us hl => match us, hl with | [_], _ => rfl
  have O_begins : OkN P0 w K mg base 5 "begins" 1 m_begins := ok_begins T A_begins O_need_program
  have A_by_row : At K mg "by_row" s_by_row ["places"] := at_of X G (hf 53 _ rfl) (hd 23 d_by_row rfl) fun _ _ _ _ _ _ us hl => match us, hl with | [_], _ => rfl
  have O_by_row : Ok P0 w K mg base 1 "by_row" 1 m_by_row := ok_by_row T A_by_row
  have A_is_worth : At K mg "is_worth" s_is_worth ["two", "thing"] := at_of X G (hf 54 _ rfl) (hd 24 d_is_worth rfl) fun _ _ _ _ _ _ us hl => match us, hl with | [_, _], _ => rfl
  have O_is_worth : Ok P0 w K mg base 2 "is_worth" 2 m_is_worth := ok_is_worth T A_is_worth O_whole
  have A_is_rule : At K mg "is_rule" s_is_rule ["one", "two", "thing"] := at_of X G (hf 55 _ rfl) (hd 25 d_is_rule rfl) fun _ _ _ _ _ _ us hl => match us, hl with | [_, _, _], _ => rfl
  have O_is_rule : Ok P0 w K mg base 3 "is_rule" 3 m_is_rule := ok_is_rule T A_is_rule O_is_worth O_whole
  have A_is_place : At K mg "is_place" s_is_place ["one", "two", "thing"] := at_of X G (hf 56 _ rfl) (hd 26 d_is_place rfl) fun _ _ _ _ _ _ us hl => match us, hl with | [_, _, _], _ => rfl
  have O_is_place : Ok P0 w K mg base 4 "is_place" 3 m_is_place := ok_is_place T A_is_place O_is_rule O_whole
  have A_is_places : At K mg "is_places" s_is_places ["one", "two", "thing"] := at_of X G (hf 57 _ rfl) (hd 27 d_is_places rfl) fun _ _ _ _ _ _ us hl => match us, hl with | [_, _, _], _ => rfl
  have O_is_places : Ok P0 w K mg base 5 "is_places" 3 m_is_places := ok_is_places T A_is_places O_is_place
  have A_need_places : At K mg "need_places" s_need_places ["one", "two", "places"] := at_of X G (hf 58 _ rfl) (hd 28 d_need_places rfl) fun _ _ _ _ _ _ us hl => match us, hl with | [_, _, _], _ => rfl
  have O_need_places : OkN P0 w K mg base 6 "need_places" 3 m_need_places := ok_need_places T A_need_places O_is_places O_need_program
  have A_worth : At K mg "worth" s_worth ["rule", "numbers"] := at_of X G (hf 59 _ rfl) (hd 29 d_worth rfl) fun _ _ _ _ _ _ us hl => match us, hl with | [_, _], _ => rfl
  have O_worth : Ok P0 w K mg base 1 "worth" 2 m_worth := ok_worth T A_worth
  have A_turned : At K mg "turned" s_turned ["rules", "numbers"] := at_of X G (hf 60 _ rfl) (hd 30 d_turned rfl) fun _ _ _ _ _ _ us hl => match us, hl with | [_, _], _ => rfl
  have O_turned : Ok P0 w K mg base 2 "turned" 2 m_turned := ok_turned T A_turned O_worth
  have A_is_stuck : At K mg "is_stuck" s_is_stuck ["there", "state"] := at_of X G (hf 61 _ rfl) (hd 31 d_is_stuck rfl) fun _ _ _ _ _ _ us hl => match us, hl with | [_, _], _ => rfl
  have O_is_stuck : Ok P0 w K mg base 3 "is_stuck" 2 m_is_stuck := ok_is_stuck T A_is_stuck O_turned
  have A_replaced : At K mg "replaced" s_replaced ["numbers", "box", "number"] := at_of X G (hf 62 _ rfl) (hd 32 d_replaced rfl) fun _ _ _ _ _ _ us hl => match us, hl with | [_, _, _], _ => rfl
  have O_replaced : Ok P0 w K mg base 1 "replaced" 3 m_replaced := ok_replaced T A_replaced
  have A_written : At K mg "written" s_written ["most", "row", "numbers"] := at_of X G (hf 63 _ rfl) (hd 33 d_written rfl) fun _ _ _ _ _ _ us hl => match us, hl with | [_, _, _], _ => rfl
  have O_written : Ok P0 w K mg base 1 "written" 3 m_written := ok_written T A_written
  have A_stepped : At K mg "stepped" s_stepped ["program", "state"] := at_of X G (hf 64 _ rfl) (hd 34 d_stepped rfl) fun _ _ _ _ _ _ us hl => match us, hl with | [_, _], _ => rfl
  have O_stepped : Ok P0 w K mg base 2 "stepped" 2 m_stepped := ok_stepped T A_stepped O_replaced O_written
  have A_unsafe_run : At K mg "unsafe_run" s_unsafe_run ["one", "there", "begin", "fine"] := at_of X G (hf 65 _ rfl) (hd 35 d_unsafe_run rfl) fun _ _ _ _ _ _ us hl => match us, hl with | [_, _, _, _], _ => rfl
  have O_unsafe_run : OkB P0 w K mg base 4 "unsafe_run" 4 3 m_unsafe_run := ok_unsafe_run T A_unsafe_run O_is_stuck O_stepped
  have A_looked : At K mg "looked" s_looked ["one", "two", "places"] := at_of X G (hf 66 _ rfl) (hd 36 d_looked rfl) fun _ _ _ _ _ _ us hl => match us, hl with | [_, _, _], _ => rfl
  have O_looked : Ok P0 w K mg base 7 "looked" 3 m_looked := ok_looked T A_looked O_begins O_by_row O_need_places O_unsafe_run
  have A_law_word : At K mg "_law_word" s_law_word ["_law_one", "_law_two", "_law_places_here"] := at_of X G (hf 67 _ rfl) (hd 37 d_law_word rfl) fun _ _ _ _ _ _ us hl => match us, hl with | [_, _, _], _ => rfl
  have O_law_word : Ok P0 w K mg base 8 "_law_word" 3 m_law_word := ok_law_word T A_law_word O_looked
  exact fn_law T FL O_law_begins O_law_cell_at O_law_is_safe O_law_odd_place O_law_places O_law_plain O_law_program O_law_right O_law_rules O_law_word O_begins O_looked
theorem run_f (w : World) : HandSHeadRun.RunEq R (PySem.W.view R.prog [lawAt]) hk ob 20000 loose (w.withFollow "special-get-raises" false) := by
  intro os
  kernel_rfl
theorem run_t (w : World) : HandSHeadRun.RunEq R (PySem.W.view R.prog [lawAt]) hk ob 20000 loose (w.withFollow "special-get-raises" true) := by
  intro os
  kernel_rfl
theorem run (w : World) : HandSHeadRun.RunEq R (PySem.W.view R.prog [lawAt]) hk ob 20000 loose w :=
  PySem.W.byRow2 "special-get-raises" (P := fun w => HandSHeadRun.RunEq R (PySem.W.view R.prog [lawAt]) hk ob 20000 loose w) run_f run_t w
end K08
open PySem PySem.W PySem.Calls PyProof.Rows
theorem K08.holds_of (hm : ∀ ns : List Int, ns.length ≤ 63 → K08.m_law [.fro ns] = .ok (.bl true)) : PySem.Challenge.rw_liveswap_k08_whole_looked.Holds := by
  w_on; o_law
  refine HandSHeadRun.head_any (r := OpenLaw.row PySem.Challenge.rw_liveswap_k08_whole_looked) (q := view (OpenLaw.row PySem.Challenge.rw_liveswap_k08_whole_looked).prog [K08.lawAt]) (H := K08.hk) (ob := K08.ob) (M := 20000) (loose := K08.loose) (d := HandSHeadRun.topDef (OpenLaw.row PySem.Challenge.rw_liveswap_k08_whole_looked).prog K08.lawAt) (kwd := []) K08.ob_eq
    (by kernel_rfl) (fun s => by kernel_rfl) K08.run (by kernel_rfl) (by kernel_rfl) (by kernel_rfl) (by rfl) (by first | assumption | decide +kernel) (by decide +kernel) ⟨rfl, rfl, rfl, rfl, rfl, by decide +kernel⟩ ?hw ?hc
  case hw => w_witness2
  case hc =>
    refine VS.walk_w (l := PySem.Challenge.rw_liveswap_k08_whole_looked) (n := 63) (k := 11) (x := "_law_script") (CX := fun w => L2.CX K08.P0 w) rfl (by decide) (by kernel_rfl) ⟨rfl, by decide, by decide⟩ ?F (fun _ _ _ _ _ z => VS.cx_none z)
    intro w mg fa h Y G hmg0
    obtain ⟨K, X, c⟩ := Y
    have hmg : mg ("law" : PySem.Str) = some (.ref fa) := by
      have e : (HandSHeadRun.topDef (OpenLaw.row PySem.Challenge.rw_liveswap_k08_whole_looked).prog K08.lawAt).name = ("law" : PySem.Str) := by kernel_rfl
      rw [← e]
      exact hmg0
    have hf : ∀ (i : Nat) (z : He.Fa), K08.fas[i]? = some z → z.ok K = true := fun i z e => c.t.d.fact i e
    have hx : ∀ (i : Nat) (z : VS.Xa), K08.xas[i]? = some z → z.ok K = true := fun i z e => VS.ex_at c.more i z e
    have ht : ∀ (i : Nat) (t : He.Tab), K08.tss[i]? = some t → ∃ es n, L2.KDict K w (t.1 K) es n := fun i t e => c.t.tab i e
    have hd : ∀ (i : Nat) (d : He.DefD), K08.fns[i]? = some d → ∃ fd, L2.FunD K d.name d.qual d.params d.body d.scope (d.dvs K) (d.kws K) (He.fAd K d.at_) fd := fun i d e => c.t.d.def_ i e
    obtain ⟨fd, FT⟩ := hd 38 K08.d_law rfl
    have e := hmg.symm.trans (He.glo_ok X G (hf 68 _ rfl))
    cases e
    have b := L2.FunD.bindsA (ps := ["_law_script"]) FT fun _ _ _ _ _ _ us hl => match us, hl with | [_], _ => rfl
    exact ⟨K, fd, VS.spD ⟨K, mg⟩ 1 K08.m_law, X, fun s u => b s [u] rfl, fun H a ns hl _ hS => VS.law_sp hm hl hS, fun base _ _ => K08.ok_all (base := base) X G hf hx ht hd (VS.fun_of FT)⟩

namespace K08
open PySem PySem.Spec PyProof.Rows L2 Evl VS
/-! ### the data -/
inductive Rw where
  | put (b n : Nat) | more (b : Nat) | copy (b o : Nat) | tell (b : Nat) | go (r : Nat) | ask (b r : Nat) | stop
def Rw.t : Rw → T
  | .put b n => .tup [.str "put", .int b, .int n]
  | .more b => .tup [.str "more", .int b]
  | .copy b o => .tup [.str "copy", .int b, .int o]
  | .tell b => .tup [.str "tell", .int b]
  | .go r => .tup [.str "go", .int r]
  | .ask b r => .tup [.str "ask", .int b, .int r]
  | .stop => .tup [.str "stop"]
def Rw.ok (B M N : Nat) : Rw → Prop
  | .put b n => b < B ∧ n ≤ M
  | .more b => b < B
  | .copy b o => b < B ∧ o < B
  | .tell b => b < B
  | .go r => r < N
  | .ask b r => b < B ∧ r < N
  | .stop => True
def Rw.ends : Rw → Bool
  | .go _ => true
  | .stop => true
  | _ => false
structure Pg where
  B : Nat
  M : Nat
  rows : List Rw
def Pg.t (p : Pg) : T := .tup [.int p.B, .int p.M, .lst (p.rows.map Rw.t)]
structure Pg.ok (p : Pg) : Prop where
  b3 : p.B ≤ 3
  m1 : 1 ≤ p.M
  m4 : p.M ≤ 4
  n1 : 1 ≤ p.rows.length
  n20 : p.rows.length ≤ 20
  rows : ∀ r ∈ p.rows, r.ok p.B p.M p.rows.length
  last : ∀ r, p.rows.getLast? = some r → r.ends = true
def numsT (l : List Nat) : T := .tup (l.map fun n => .int (n : Nat))
def Nums (p : Pg) (l : List Nat) : Prop := l.length = p.B ∧ ∀ n ∈ l, n ≤ p.M
theorem rowT_kind (r : Rw) : ∃ k l, r.t = .tup (.str k :: l) ∧ gIn false (.str k) (.tup [.str "go", .str "stop"]) = some (.bl r.ends) := by
  cases r <;> exact ⟨_, _, rfl, by rfl⟩
theorem getLast_map {α β : Type} (f : α → β) (l : List α) : (l.map f).getLast? = l.getLast?.map f := by simp
def oN : Option Nat → T
  | none => .non
  | some n => .int (n : Nat)
theorem e_is_is : gEq (.str "is") (.str "is") = some (.bl true) := gEq_strs (by decide +kernel)
theorem e_by_is : gEq (.str "by") (.str "is") = some (.bl false) := gEq_strs (by decide +kernel)
theorem e_is_by : gEq (.str "is") (.str "by") = some (.bl false) := gEq_strs (by decide +kernel)
theorem e_by_by : gEq (.str "by") (.str "by") = some (.bl true) := gEq_strs (by decide +kernel)

/-! ### the law's helpers -/
theorem cell_ok (ns : List Int) (k : Nat) : ∃ c : Int, m_law_cell_at [.fro ns, .int (k : Nat)] = .ok (.int c) := by
  unfold m_law_cell_at b_law_cell_at
  by_cases h : k < ns.length
  · have h1 : ns[k]? = some ns[k] := List.getElem?_eq_getElem h
    exact ⟨ns[k], by simp [fDef, sSeq, sLift, sRet, sIf, sSet, sNew, sExp, sNx, sAsg, setT, setAll, sFrz, frz, sRaise, sApp, eB, eU, eC, eV, eW, eCh, eAnd, eOr, eNot, eIf, eTup, eLst, eNeg, eSl, oNone, oSome, aNil, aCons, eCall, Res.bind, Res.of, gI, gLen, gInt, gList, gTuple, gType, tyName, gTyIs, gIsi, gIsN', gNotN', T.isNon, T.isFn, gIx_tup, gIx_lst, gIx_fro, VS.atI_nat, atI_0, atI_1, atI_2, VS.atI_last, gEq_int, gNe_int, gAdd, gSubI, gMul, gMod, gDiv, h, h1]⟩
  · exact ⟨0, by simp [fDef, sSeq, sLift, sRet, sIf, sSet, sNew, sExp, sNx, sAsg, setT, setAll, sFrz, frz, sRaise, sApp, eB, eU, eC, eV, eW, eCh, eAnd, eOr, eNot, eIf, eTup, eLst, eNeg, eSl, oNone, oSome, aNil, aCons, eCall, Res.bind, Res.of, gI, gLen, gInt, gList, gTuple, gType, tyName, gTyIs, gIsi, gIsN', gNotN', T.isNon, T.isFn, gIx_tup, gIx_lst, gIx_fro, VS.atI_nat, atI_0, atI_1, atI_2, VS.atI_last, gEq_int, gNe_int, gAdd, gSubI, gMul, gMod, gDiv, h]⟩
theorem mod_nat (z m : Int) (h : 0 < m) : ∃ k : Nat, z % m = (k : Int) ∧ (k : Int) < m :=
  ⟨(z % m).toNat, (Int.toNat_of_nonneg (Int.emod_nonneg _ (by omega))).symm, by rw [Int.toNat_of_nonneg (Int.emod_nonneg _ (by omega))]; exact Int.emod_lt_of_pos _ h⟩
theorem next_ok (s : Int) : ∃ r : Nat, m_law_next [.int s] = .ok (.int (r : Nat)) := by
  obtain ⟨k, h, _⟩ := mod_nat (s * 48271 + 11) 2147483647 (by decide)
  refine ⟨k, ?_⟩
  unfold m_law_next b_law_next
  simp [fDef, sSeq, sLift, sRet, sIf, sSet, sNew, sExp, sNx, sAsg, setT, setAll, sFrz, frz, sRaise, sApp, eB, eU, eC, eV, eW, eCh, eAnd, eOr, eNot, eIf, eTup, eLst, eNeg, eSl, oNone, oSome, aNil, aCons, eCall, Res.bind, Res.of, gI, gLen, gInt, gList, gTuple, gType, tyName, gTyIs, gIsi, gIsN', gNotN', T.isNon, T.isFn, gIx_tup, gIx_lst, gIx_fro, VS.atI_nat, atI_0, atI_1, atI_2, VS.atI_last, gEq_int, gNe_int, gAdd, gSubI, gMul, gMod, gDiv, h]
theorem row_ok {z : Int} {B M N : Nat} (hN : 1 ≤ N) : ∃ r : Rw, m_law_row [.int z, .int (B : Nat), .int (M : Nat), .int (N : Nat)] = .ok r.t ∧ r.ok B M N := by
  have pN : (0 : Int) < N := by omega
  have pN' : 0 < N := by omega
  have pM : (0 : Int) < (M : Int) + 1 := by omega
  obtain ⟨k, hk, lk⟩ := mod_nat z 10 (by decide)
  obtain ⟨r1, e1, l1⟩ := mod_nat (z / 10) N pN
  obtain ⟨r5, e5, l5⟩ := mod_nat (z / 50) N pN
  obtain ⟨n, en, ln⟩ := mod_nat (z / 50) ((M : Int) + 1) pM
  obtain ⟨j, ej, lj⟩ := mod_nat (z / 20) 2 (by decide)
  have hk10 : k < 10 := by omega
  have hj2 : j < 2 := by omega
  unfold m_law_row b_law_row
  by_cases hB : B = 0
  · subst hB
    by_cases h7 : k < 7
    · have e7 : (k : Int) / 7 = 0 := by omega
      exact ⟨.go r1, by simp [fDef, sSeq, sLift, sRet, sIf, sSet, sNew, sExp, sNx, sAsg, setT, setAll, sFrz, frz, sRaise, sApp, eB, eU, eC, eV, eW, eCh, eAnd, eOr, eNot, eIf, eTup, eLst, eNeg, eSl, oNone, oSome, aNil, aCons, eCall, Res.bind, Res.of, gI, gLen, gInt, gList, gTuple, gType, tyName, gTyIs, gIsi, gIsN', gNotN', T.isNon, T.isFn, gIx_tup, gIx_lst, gIx_fro, VS.atI_nat, atI_0, atI_1, atI_2, VS.atI_last, gEq_int, gNe_int, gAdd, gSubI, gMul, gMod, gDiv, hk, e7, e1, pN, pN', Rw.t], by show r1 < N; omega⟩
    · have e7 : (k : Int) / 7 = 1 := by omega
      exact ⟨.stop, by simp [fDef, sSeq, sLift, sRet, sIf, sSet, sNew, sExp, sNx, sAsg, setT, setAll, sFrz, frz, sRaise, sApp, eB, eU, eC, eV, eW, eCh, eAnd, eOr, eNot, eIf, eTup, eLst, eNeg, eSl, oNone, oSome, aNil, aCons, eCall, Res.bind, Res.of, gI, gLen, gInt, gList, gTuple, gType, tyName, gTyIs, gIsi, gIsN', gNotN', T.isNon, T.isFn, gIx_tup, gIx_lst, gIx_fro, VS.atI_nat, atI_0, atI_1, atI_2, VS.atI_last, gEq_int, gNe_int, gAdd, gSubI, gMul, gMod, gDiv, hk, e7, e1, pN, pN', Rw.t], trivial⟩
  · have pB : (0 : Int) < B := by omega
    have pB' : 0 < B := by omega
    obtain ⟨b, eb, lb⟩ := mod_nat (z / 10) B pB
    obtain ⟨o, eo, lo⟩ := mod_nat (z / 50) B pB
    have lb' : b < B := by omega
    have lo' : o < B := by omega
    by_cases h2 : k < 2
    · have q : (k : Int) < 2 := by omega
      exact ⟨.put b n, by simp [fDef, sSeq, sLift, sRet, sIf, sSet, sNew, sExp, sNx, sAsg, setT, setAll, sFrz, frz, sRaise, sApp, eB, eU, eC, eV, eW, eCh, eAnd, eOr, eNot, eIf, eTup, eLst, eNeg, eSl, oNone, oSome, aNil, aCons, eCall, Res.bind, Res.of, gI, gLen, gInt, gList, gTuple, gType, tyName, gTyIs, gIsi, gIsN', gNotN', T.isNon, T.isFn, gIx_tup, gIx_lst, gIx_fro, VS.atI_nat, atI_0, atI_1, atI_2, VS.atI_last, gEq_int, gNe_int, gAdd, gSubI, gMul, gMod, gDiv, hk, hB, q, eb, en, pB, pB', pM, Rw.t], lb', by omega⟩
    · have q2 : ¬ (k : Int) < 2 := by omega
      by_cases h4 : k < 4
      · have q : (k : Int) < 4 := by omega
        exact ⟨.more b, by simp [fDef, sSeq, sLift, sRet, sIf, sSet, sNew, sExp, sNx, sAsg, setT, setAll, sFrz, frz, sRaise, sApp, eB, eU, eC, eV, eW, eCh, eAnd, eOr, eNot, eIf, eTup, eLst, eNeg, eSl, oNone, oSome, aNil, aCons, eCall, Res.bind, Res.of, gI, gLen, gInt, gList, gTuple, gType, tyName, gTyIs, gIsi, gIsN', gNotN', T.isNon, T.isFn, gIx_tup, gIx_lst, gIx_fro, VS.atI_nat, atI_0, atI_1, atI_2, VS.atI_last, gEq_int, gNe_int, gAdd, gSubI, gMul, gMod, gDiv, hk, hB, q2, q, eb, pB, pB', Rw.t], lb'⟩
      · have q4 : ¬ (k : Int) < 4 := by omega
        by_cases h44 : k = 4
        · have q : (k : Int) = 4 := by omega
          exact ⟨.copy b o, by simp [fDef, sSeq, sLift, sRet, sIf, sSet, sNew, sExp, sNx, sAsg, setT, setAll, sFrz, frz, sRaise, sApp, eB, eU, eC, eV, eW, eCh, eAnd, eOr, eNot, eIf, eTup, eLst, eNeg, eSl, oNone, oSome, aNil, aCons, eCall, Res.bind, Res.of, gI, gLen, gInt, gList, gTuple, gType, tyName, gTyIs, gIsi, gIsN', gNotN', T.isNon, T.isFn, gIx_tup, gIx_lst, gIx_fro, VS.atI_nat, atI_0, atI_1, atI_2, VS.atI_last, gEq_int, gNe_int, gAdd, gSubI, gMul, gMod, gDiv, hk, hB, q, eb, eo, pB, pB', Rw.t], lb', lo'⟩
        · have q44 : ¬ (k : Int) = 4 := by omega
          by_cases h7 : k < 7
          · have q : (k : Int) < 7 := by omega
            exact ⟨.tell b, by simp [fDef, sSeq, sLift, sRet, sIf, sSet, sNew, sExp, sNx, sAsg, setT, setAll, sFrz, frz, sRaise, sApp, eB, eU, eC, eV, eW, eCh, eAnd, eOr, eNot, eIf, eTup, eLst, eNeg, eSl, oNone, oSome, aNil, aCons, eCall, Res.bind, Res.of, gI, gLen, gInt, gList, gTuple, gType, tyName, gTyIs, gIsi, gIsN', gNotN', T.isNon, T.isFn, gIx_tup, gIx_lst, gIx_fro, VS.atI_nat, atI_0, atI_1, atI_2, VS.atI_last, gEq_int, gNe_int, gAdd, gSubI, gMul, gMod, gDiv, hk, hB, q2, q4, q44, q, eb, pB, pB', Rw.t], lb'⟩
          · have q7 : ¬ (k : Int) < 7 := by omega
            by_cases h77 : k = 7
            · have q : (k : Int) = 7 := by omega
              by_cases hj : j = 0
              · subst hj
                exact ⟨.go r5, by simp [fDef, sSeq, sLift, sRet, sIf, sSet, sNew, sExp, sNx, sAsg, setT, setAll, sFrz, frz, sRaise, sApp, eB, eU, eC, eV, eW, eCh, eAnd, eOr, eNot, eIf, eTup, eLst, eNeg, eSl, oNone, oSome, aNil, aCons, eCall, Res.bind, Res.of, gI, gLen, gInt, gList, gTuple, gType, tyName, gTyIs, gIsi, gIsN', gNotN', T.isNon, T.isFn, gIx_tup, gIx_lst, gIx_fro, VS.atI_nat, atI_0, atI_1, atI_2, VS.atI_last, gEq_int, gNe_int, gAdd, gSubI, gMul, gMod, gDiv, hk, hB, q, ej, e5, eb, pB, pB', pN, pN', Rw.t], by show r5 < N; omega⟩
              · obtain rfl : j = 1 := by omega
                exact ⟨.stop, by simp [fDef, sSeq, sLift, sRet, sIf, sSet, sNew, sExp, sNx, sAsg, setT, setAll, sFrz, frz, sRaise, sApp, eB, eU, eC, eV, eW, eCh, eAnd, eOr, eNot, eIf, eTup, eLst, eNeg, eSl, oNone, oSome, aNil, aCons, eCall, Res.bind, Res.of, gI, gLen, gInt, gList, gTuple, gType, tyName, gTyIs, gIsi, gIsN', gNotN', T.isNon, T.isFn, gIx_tup, gIx_lst, gIx_fro, VS.atI_nat, atI_0, atI_1, atI_2, VS.atI_last, gEq_int, gNe_int, gAdd, gSubI, gMul, gMod, gDiv, hk, hB, q, ej, e5, eb, pB, pB', pN, pN', Rw.t], trivial⟩
            · have q77 : ¬ (k : Int) = 7 := by omega
              exact ⟨.ask b r5, by simp [fDef, sSeq, sLift, sRet, sIf, sSet, sNew, sExp, sNx, sAsg, setT, setAll, sFrz, frz, sRaise, sApp, eB, eU, eC, eV, eW, eCh, eAnd, eOr, eNot, eIf, eTup, eLst, eNeg, eSl, oNone, oSome, aNil, aCons, eCall, Res.bind, Res.of, gI, gLen, gInt, gList, gTuple, gType, tyName, gTyIs, gIsi, gIsN', gNotN', T.isNon, T.isFn, gIx_tup, gIx_lst, gIx_fro, VS.atI_nat, atI_0, atI_1, atI_2, VS.atI_last, gEq_int, gNe_int, gAdd, gSubI, gMul, gMod, gDiv, hk, hB, q2, q4, q44, q7, q77, eb, e5, pB, pB', pN, pN', Rw.t], lb', by omega⟩
def bodyP : FS := (sSeq (sSet 1 (eCall 1 m_law_next (aCons (eB gAdd (eW 1) (eW 6)) aNil)))
  (sApp 5 (eCall 4 m_law_row (aCons (eV 1) (aCons (eV 2) (aCons (eV 3) (aCons (eV 4) aNil)))))))
theorem bodyP_ok {B M N s k : Nat} {rs : List Rw} {c : Sl} (hN : 1 ≤ N) (hl : rs.length ≤ 1000) : ∃ (s1 : Nat) (r : Rw), r.ok B M N ∧ bodyP [c, .sh (.int (s : Nat)), .sh (.int (B : Nat)), .sh (.int (M : Nat)), .sh (.int (N : Nat)), .ow (.lst (rs.map Rw.t)), .sh (.int (k : Nat))] = .nx [c, .sh (.int (s1 : Nat)), .sh (.int (B : Nat)), .sh (.int (M : Nat)), .sh (.int (N : Nat)), .ow (.lst ((rs ++ [r]).map Rw.t)), .sh (.int (k : Nat))] := by
  obtain ⟨s1, e1⟩ := next_ok ((s : Int) + (k : Int))
  obtain ⟨r, e2, hr⟩ := row_ok (z := (s1 : Int)) (B := B) (M := M) (N := N) hN
  refine ⟨s1, r, hr, ?_⟩
  have a1 : ∀ F : Mir, F [.int ((s : Int) + (k : Int))] = .ok (.int (s1 : Nat)) → (sSet 1 (eCall 1 F (aCons (eB gAdd (eW 1) (eW 6)) aNil))) [c, .sh (.int (s : Nat)), .sh (.int (B : Nat)), .sh (.int (M : Nat)), .sh (.int (N : Nat)), .ow (.lst (rs.map Rw.t)), .sh (.int (k : Nat))] = .nx [c, .sh (.int (s1 : Nat)), .sh (.int (B : Nat)), .sh (.int (M : Nat)), .sh (.int (N : Nat)), .ow (.lst (rs.map Rw.t)), .sh (.int (k : Nat))] := by
    intro F e
    simp [fDef, sSeq, sLift, sRet, sIf, sSet, sNew, sExp, sNx, sAsg, setT, setAll, sFrz, frz, sRaise, sApp, eB, eU, eC, eV, eW, eCh, eAnd, eOr, eNot, eIf, eTup, eLst, eNeg, eSl, oNone, oSome, aNil, aCons, eCall, Res.bind, Res.of, gI, gLen, gInt, gList, gTuple, gType, tyName, gTyIs, gIsi, gIsN', gNotN', T.isNon, T.isFn, gIx_tup, gIx_lst, gIx_fro, VS.atI_nat, atI_0, atI_1, atI_2, VS.atI_last, gEq_int, gNe_int, gAdd, gSubI, gMul, gMod, gDiv, e]
  have a2 : (eCall 4 m_law_row (aCons (eV 1) (aCons (eV 2) (aCons (eV 3) (aCons (eV 4) aNil))))) [c, .sh (.int (s1 : Nat)), .sh (.int (B : Nat)), .sh (.int (M : Nat)), .sh (.int (N : Nat)), .ow (.lst (rs.map Rw.t)), .sh (.int (k : Nat))] = .ok r.t := by
    simp [fDef, sSeq, sLift, sRet, sIf, sSet, sNew, sExp, sNx, sAsg, setT, setAll, sFrz, frz, sRaise, sApp, eB, eU, eC, eV, eW, eCh, eAnd, eOr, eNot, eIf, eTup, eLst, eNeg, eSl, oNone, oSome, aNil, aCons, eCall, Res.bind, Res.of, gI, gLen, gInt, gList, gTuple, gType, tyName, gTyIs, gIsi, gIsN', gNotN', T.isNon, T.isFn, gIx_tup, gIx_lst, gIx_fro, VS.atI_nat, atI_0, atI_1, atI_2, VS.atI_last, gEq_int, gNe_int, gAdd, gSubI, gMul, gMod, gDiv, e2]
  unfold bodyP
  rw [sSeq_nx (a1 _ e1), sApp_ok rfl a2 (by rw [List.length_map]; exact lt_big hl)]
  rw [List.map_append]
  rfl
theorem loopP (B M N : Nat) (hN : 1 ≤ N) (hN2 : N ≤ 100) (c : Sl) (s : Nat) (x : Sl) :
    ∃ (s' : Nat) (rs' : List Rw) (y : Sl), loopF (.nm 6) bodyP ((List.range N).map fun i => .int (i : Nat)) [c, .sh (.int (s : Nat)), .sh (.int (B : Nat)), .sh (.int (M : Nat)), .sh (.int (N : Nat)), .ow (.lst []), x]
        = .nx [c, .sh (.int (s' : Nat)), .sh (.int (B : Nat)), .sh (.int (M : Nat)), .sh (.int (N : Nat)), .ow (.lst (rs'.map Rw.t)), y] ∧ rs'.length = N ∧ ∀ r ∈ rs', r.ok B M N := by
  obtain ⟨ρ', h1, s', rs', y, h2, h3, h4⟩ := loop_nx (i := 6) (body := bodyP) (fun n ρ => ∃ (s : Nat) (rs : List Rw) (y : Sl), ρ = [c, .sh (.int (s : Nat)), .sh (.int (B : Nat)), .sh (.int (M : Nat)), .sh (.int (N : Nat)), .ow (.lst (rs.map Rw.t)), y] ∧ rs.length = n ∧ ∀ r ∈ rs, r.ok B M N)
    ((List.range N).map fun i => .int (i : Nat)) 0 [c, .sh (.int (s : Nat)), .sh (.int (B : Nat)), .sh (.int (M : Nat)), .sh (.int (N : Nat)), .ow (.lst []), x] ⟨s, [], x, rfl, rfl, fun r m => nomatch m⟩ (by
      rintro t m n h1 h2 ρ ⟨s, rs, y, rfl, h4, h5⟩
      obtain ⟨k, _, rfl⟩ := List.mem_map.mp m
      rw [List.length_map, List.length_range] at h2
      obtain ⟨s1, r, hr, e3⟩ := bodyP_ok (B := B) (M := M) (s := s) (k := k) (rs := rs) (c := c) hN (by omega)
      refine ⟨_, e3, s1, rs ++ [r], _, rfl, by rw [List.length_append, List.length_singleton, h4], fun q m => ?_⟩
      rcases List.mem_append.mp m with m | m
      · exact h5 q m
      · rw [List.mem_singleton.mp m]; exact hr)
  rw [List.length_map, List.length_range, Nat.zero_add] at h3
  subst h2
  exact ⟨s', rs', y, h1, h3, h4⟩
theorem ixN_last {n : Nat} (h : 1 ≤ n) : ixN n (-1) = some (n - 1) := by
  unfold ixN
  rw [if_neg (by decide), if_pos (by omega)]
  congr 1
  omega
theorem last_set {α : Type} {l : List α} (h : 1 ≤ l.length) (x : α) : (l.set (l.length - 1) x).getLast? = some x := by
  rw [List.getLast?_eq_getElem?, List.length_set, List.getElem?_set_self (by omega)]
theorem sFor_ok {fi : FI} {g : Tg} {body : FS} {ρ ρ' : Ev'} {l : List T} (h : fi ρ = .ok l) (k : loopF g body l ρ = .nx ρ') : sFor fi g body ρ = .nx ρ' := by
  unfold sFor
  rw [h]
  exact k
theorem sIf_t {fc : FE} {f g : FS} {ρ : Ev'} (h : fc ρ = .ok (.bl true)) : sIf fc f g ρ = f ρ := by
  unfold sIf sLift
  rw [h]
theorem sIf_f {fc : FE} {f g : FS} {ρ : Ev'} (h : fc ρ = .ok (.bl false)) : sIf fc f g ρ = g ρ := by
  unfold sIf sLift
  rw [h]
theorem sPut_last {i : Nat} {fa : FE} {ρ : Ev'} {l : List T} {t : T} (h : ρ[i]? = some (.ow (.lst l))) (e : fa ρ = .ok t) (hl : 1 ≤ l.length) : sPut i (eNeg (eC (.int 1))) fa ρ = .nx (ρ.set i (.ow (.lst (l.set (l.length - 1) t)))) := by
  have h1 := ixN_last hl
  unfold sPut
  simp only [sLift, e, h, eNeg, eC, Res.bind, h1]
abbrev sg (c s B M N : Int) (l : List T) (x : Sl) : Ev' := [.sh (.int c), .sh (.int s), .sh (.int B), .sh (.int M), .sh (.int N), .ow (.lst l), x]
theorem many_ok (c : Int) (s : Nat) (x y : Sl) : ∃ N : Nat, 1 ≤ N ∧ N ≤ 16 ∧ (eB gAdd (eB gAdd (eC (.int 1)) (eB gMod (eB gDiv (eW 1) (eC (.int 24))) (eC (.int 7)))) (eB gMul (eC (.int 9)) (eU gInt (eB gEq (eB gMod (eB gDiv (eW 1) (eC (.int 200))) (eC (.int 8))) (eC (.int 3)))))) [.sh (.int c), .sh (.int (s : Nat)), x, y, .un, .un, .un] = .ok (.int (N : Nat)) := by
  obtain ⟨n7, en7, ln7⟩ := mod_nat ((s : Int) / 24) 7 (by decide)
  generalize (s : Int) = z at *
  by_cases h9 : z / 200 % 8 = 3
  · exact ⟨1 + n7 + 9, by omega, by omega, by simp [fDef, sSeq, sLift, sRet, sIf, sSet, sNew, sExp, sNx, sAsg, setT, setAll, sFrz, frz, sRaise, sApp, eB, eU, eC, eV, eW, eCh, eAnd, eOr, eNot, eIf, eTup, eLst, eNeg, eSl, oNone, oSome, aNil, aCons, eCall, Res.bind, Res.of, gI, gLen, gInt, gList, gTuple, gType, tyName, gTyIs, gIsi, gIsN', gNotN', T.isNon, T.isFn, gIx_tup, gIx_lst, gIx_fro, VS.atI_nat, atI_0, atI_1, atI_2, VS.atI_last, gEq_int, gNe_int, gAdd, gSubI, gMul, gMod, gDiv, en7, h9]⟩
  · exact ⟨1 + n7, by omega, by omega, by simp [fDef, sSeq, sLift, sRet, sIf, sSet, sNew, sExp, sNx, sAsg, setT, setAll, sFrz, frz, sRaise, sApp, eB, eU, eC, eV, eW, eCh, eAnd, eOr, eNot, eIf, eTup, eLst, eNeg, eSl, oNone, oSome, aNil, aCons, eCall, Res.bind, Res.of, gI, gLen, gInt, gList, gTuple, gType, tyName, gTyIs, gIsi, gIsN', gNotN', T.isNon, T.isFn, gIx_tup, gIx_lst, gIx_fro, VS.atI_nat, atI_0, atI_1, atI_2, VS.atI_last, gEq_int, gNe_int, gAdd, gSubI, gMul, gMod, gDiv, en7, h9]⟩
theorem program_ok (c : Int) : ∃ p : Pg, m_law_program [.int c] = .ok p.t ∧ p.ok ∧ p.rows.length ≤ 16 := by
  obtain ⟨s, e1⟩ := next_ok c
  obtain ⟨k6, e6, l6⟩ := mod_nat s 6 (by decide)
  have hB : ∃ B : Nat, B ≤ 3 ∧ ([.int 1, .int 2, .int 1, .int 2, .int 0, .int 3] : List T)[k6]? = some (.int (B : Nat)) := by
    have : k6 = 0 ∨ k6 = 1 ∨ k6 = 2 ∨ k6 = 3 ∨ k6 = 4 ∨ k6 = 5 := by omega
    rcases this with rfl | rfl | rfl | rfl | rfl | rfl
    · exact ⟨1, by decide, rfl⟩
    · exact ⟨2, by decide, rfl⟩
    · exact ⟨1, by decide, rfl⟩
    · exact ⟨2, by decide, rfl⟩
    · exact ⟨0, by decide, rfl⟩
    · exact ⟨3, by decide, rfl⟩
  obtain ⟨B, hB3, eB'⟩ := hB
  have hW : ∃ W : Nat, 0 < W ∧ W ≤ 4 ∧ ([.int 4, .int 4, .int 4, .int 2] : List T)[B]? = some (.int (W : Nat)) := by
    have : B = 0 ∨ B = 1 ∨ B = 2 ∨ B = 3 := by omega
    rcases this with rfl | rfl | rfl | rfl
    · exact ⟨4, by decide, by decide, rfl⟩
    · exact ⟨4, by decide, by decide, rfl⟩
    · exact ⟨4, by decide, by decide, rfl⟩
    · exact ⟨2, by decide, by decide, rfl⟩
  obtain ⟨W, hW0, hW4, eW'⟩ := hW
  have pW : (0 : Int) < (W : Nat) := by omega
  obtain ⟨m, em, lm⟩ := mod_nat ((s : Int) / 6) (W : Nat) pW
  have eM : (1 : Int) + (m : Nat) = ((1 + m : Nat) : Int) := by omega
  obtain ⟨N, hN1, hN16, eN⟩ := many_ok c s (.sh (.int (B : Nat))) (.sh (.int ((1 + m : Nat) : Int)))
  obtain ⟨s', rs, y, h1, h2, h3⟩ := loopP B (1 + m) N hN1 (by omega) (.sh (.int c)) s .un
  have hlen : rs.length = N := h2
  obtain ⟨r, hr⟩ : ∃ r, rs.getLast? = some r := by
    cases e : rs.getLast? with
    | some r => exact ⟨r, rfl⟩
    | none => rw [List.getLast?_eq_none_iff] at e; rw [e] at hlen; simp at hlen; omega
  obtain ⟨kd, tl', q1, q2⟩ := rowT_kind r
  have hl : (rs.map Rw.t).getLast? = some (.tup (.str kd :: tl')) := by rw [getLast_map, hr, ← q1]; rfl
  have q3 : gIn true (.str kd) (.tup [.str "go", .str "stop"]) = some (.bl !r.ends) := by
    cases r <;> (simp only [Rw.t, T.tup.injEq, List.cons.injEq, T.str.injEq] at q1; obtain ⟨rfl, _⟩ := q1; rfl)
  have hNN : (-100000 : Int) ≤ (N : Nat) ∧ ((N : Nat) : Int) ≤ 100000 := ⟨by omega, by omega⟩
  have hrg : iRg (eV 4) [.sh (.int c), .sh (.int (s : Nat)), .sh (.int (B : Nat)), .sh (.int ((1 + m : Nat) : Int)), .sh (.int (N : Nat)), .ow (.lst []), .un] = .ok ((List.range N).map fun i => .int (i : Nat)) := by
    simp only [iRg, fDef, sSeq, sLift, sRet, sIf, sSet, sNew, sExp, sNx, sAsg, setT, setAll, sFrz, frz, sRaise, sApp, eB, eU, eC, eV, eW, eCh, eAnd, eOr, eNot, eIf, eTup, eLst, eNeg, eSl, oNone, oSome, aNil, aCons, eCall, Res.bind, Res.of, gI, gLen, gInt, gList, gTuple, gType, tyName, gTyIs, gIsi, gIsN', gNotN', T.isNon, T.isFn, gIx_tup, gIx_lst, gIx_fro, VS.atI_nat, atI_0, atI_1, atI_2, VS.atI_last, gEq_int, gNe_int, gAdd, gSubI, gMul, gMod, gDiv, List.getElem?_cons_zero, List.getElem?_cons_succ, if_pos hNN, Int.toNat_natCast]
  have a1 : ∀ F : Mir, F [.int c] = .ok (.int (s : Nat)) → (sSet 1 (eCall 1 F (aCons (eV 0) aNil))) [.sh (.int c), .un, .un, .un, .un, .un, .un] = .nx [.sh (.int c), .sh (.int (s : Nat)), .un, .un, .un, .un, .un] := by
    intro F e
    simp [fDef, sSeq, sLift, sRet, sIf, sSet, sNew, sExp, sNx, sAsg, setT, setAll, sFrz, frz, sRaise, sApp, eB, eU, eC, eV, eW, eCh, eAnd, eOr, eNot, eIf, eTup, eLst, eNeg, eSl, oNone, oSome, aNil, aCons, eCall, Res.bind, Res.of, gI, gLen, gInt, gList, gTuple, gType, tyName, gTyIs, gIsi, gIsN', gNotN', T.isNon, T.isFn, gIx_tup, gIx_lst, gIx_fro, VS.atI_nat, atI_0, atI_1, atI_2, VS.atI_last, gEq_int, gNe_int, gAdd, gSubI, gMul, gMod, gDiv, e]
  have a2 : (sSet 2 (eB gIx (eLst (aCons (eC (.int 1)) (aCons (eC (.int 2)) (aCons (eC (.int 1)) (aCons (eC (.int 2)) (aCons (eC (.int 0)) (aCons (eC (.int 3)) aNil))))))) (eB gMod (eW 1) (eC (.int 6))))) [.sh (.int c), .sh (.int (s : Nat)), .un, .un, .un, .un, .un] = .nx [.sh (.int c), .sh (.int (s : Nat)), .sh (.int (B : Nat)), .un, .un, .un, .un] := by
    generalize (s : Int) = z at *
    simp [fDef, sSeq, sLift, sRet, sIf, sSet, sNew, sExp, sNx, sAsg, setT, setAll, sFrz, frz, sRaise, sApp, eB, eU, eC, eV, eW, eCh, eAnd, eOr, eNot, eIf, eTup, eLst, eNeg, eSl, oNone, oSome, aNil, aCons, eCall, Res.bind, Res.of, gI, gLen, gInt, gList, gTuple, gType, tyName, gTyIs, gIsi, gIsN', gNotN', T.isNon, T.isFn, gIx_tup, gIx_lst, gIx_fro, VS.atI_nat, atI_0, atI_1, atI_2, VS.atI_last, gEq_int, gNe_int, gAdd, gSubI, gMul, gMod, gDiv, e6, eB']
  have a3 : (sSet 3 (eB gAdd (eC (.int 1)) (eB gMod (eB gDiv (eW 1) (eC (.int 6))) (eB gIx (eLst (aCons (eC (.int 4)) (aCons (eC (.int 4)) (aCons (eC (.int 4)) (aCons (eC (.int 2)) aNil))))) (eW 2))))) [.sh (.int c), .sh (.int (s : Nat)), .sh (.int (B : Nat)), .un, .un, .un, .un] = .nx [.sh (.int c), .sh (.int (s : Nat)), .sh (.int (B : Nat)), .sh (.int ((1 + m : Nat) : Int)), .un, .un, .un] := by
    rw [← eM]
    exact sSet_ok (eB_ok rfl (eB_ok (eB_ok rfl rfl (gDiv_ok (by decide) (by decide))) (eB_ok (eLst_ok (aCons_ok rfl (aCons_ok rfl (aCons_ok rfl (aCons_ok rfl rfl)))) (by show 4 ≤ 1000; decide)) rfl (by rw [gIx_lst, VS.atI_nat]; exact eW')) (by rw [gMod_ok pW, em])) rfl)
  have a4 := eN
  have a5 : (sNew 5 (eLst aNil)) [.sh (.int c), .sh (.int (s : Nat)), .sh (.int (B : Nat)), .sh (.int ((1 + m : Nat) : Int)), .sh (.int (N : Nat)), .un, .un] = .nx [.sh (.int c), .sh (.int (s : Nat)), .sh (.int (B : Nat)), .sh (.int ((1 + m : Nat) : Int)), .sh (.int (N : Nat)), .ow (.lst []), .un] := rfl
  have a6 := sFor_ok hrg h1
  unfold bodyP at a6
  have a7 : (eB (gIn true) (eB gIx (eB gIx (eW 5) (eNeg (eC (.int 1)))) (eC (.int 0))) (eTup (aCons (eC (.str "go")) (aCons (eC (.str "stop")) aNil)))) [.sh (.int c), .sh (.int (s' : Nat)), .sh (.int (B : Nat)), .sh (.int ((1 + m : Nat) : Int)), .sh (.int (N : Nat)), .ow (.lst (rs.map Rw.t)), y] = .ok (.bl !r.ends) := by
    generalize rs.map Rw.t = L at hl ⊢
    simp [fDef, sSeq, sLift, sRet, sIf, sSet, sNew, sExp, sNx, sAsg, setT, setAll, sFrz, frz, sRaise, sApp, eB, eU, eC, eV, eW, eCh, eAnd, eOr, eNot, eIf, eTup, eLst, eNeg, eSl, oNone, oSome, aNil, aCons, eCall, Res.bind, Res.of, gI, gLen, gInt, gList, gTuple, gType, tyName, gTyIs, gIsi, gIsN', gNotN', T.isNon, T.isFn, gIx_tup, gIx_lst, gIx_fro, VS.atI_nat, atI_0, atI_1, atI_2, VS.atI_last, gEq_int, gNe_int, gAdd, gSubI, gMul, gMod, gDiv, hl, q3]
  have fin : ∀ L : List T, (sFrz 5 (sRet (eTup (aCons (eV 2) (aCons (eV 3) (aCons (eV 5) aNil)))))) [.sh (.int c), .sh (.int (s' : Nat)), .sh (.int (B : Nat)), .sh (.int ((1 + m : Nat) : Int)), .sh (.int (N : Nat)), .ow (.lst L), y] = .rt (.tup [.int (B : Nat), .int ((1 + m : Nat) : Int), .lst L]) := by
    intro L
    simp [fDef, sSeq, sLift, sRet, sIf, sSet, sNew, sExp, sNx, sAsg, setT, setAll, sFrz, frz, sRaise, sApp, eB, eU, eC, eV, eW, eCh, eAnd, eOr, eNot, eIf, eTup, eLst, eNeg, eSl, oNone, oSome, aNil, aCons, eCall, Res.bind, Res.of, gI, gLen, gInt, gList, gTuple, gType, tyName, gTyIs, gIsi, gIsN', gNotN', T.isNon, T.isFn, gIx_tup, gIx_lst, gIx_fro, VS.atI_nat, atI_0, atI_1, atI_2, VS.atI_last, gEq_int, gNe_int, gAdd, gSubI, gMul, gMod, gDiv]
  have body : ∀ q : List Rw, (sIf (eB (gIn true) (eB gIx (eB gIx (eW 5) (eNeg (eC (.int 1)))) (eC (.int 0))) (eTup (aCons (eC (.str "go")) (aCons (eC (.str "stop")) aNil)))) (sPut 5 (eNeg (eC (.int 1))) (eB gIx (eLst (aCons (eTup (aCons (eC (.str "go")) (aCons (eB gMod (eB gDiv (eW 1) (eC (.int 7))) (eW 4)) aNil))) (aCons (eTup (aCons (eC (.str "stop")) aNil)) aNil))) (eB gDiv (eB gMod (eB gDiv (eW 1) (eC (.int 1000))) (eC (.int 3))) (eC (.int 2))))) sNx) [.sh (.int c), .sh (.int (s' : Nat)), .sh (.int (B : Nat)), .sh (.int ((1 + m : Nat) : Int)), .sh (.int (N : Nat)), .ow (.lst (rs.map Rw.t)), y] = .nx [.sh (.int c), .sh (.int (s' : Nat)), .sh (.int (B : Nat)), .sh (.int ((1 + m : Nat) : Int)), .sh (.int (N : Nat)), .ow (.lst (q.map Rw.t)), y] → m_law_program [.int c] = .ok (Pg.t ⟨B, 1 + m, q⟩) := by
    intro q a8
    show fDef 7 b_law_program [.int c] = _
    have z : b_law_program [.sh (.int c), .un, .un, .un, .un, .un, .un] = .rt (.tup [.int (B : Nat), .int ((1 + m : Nat) : Int), .lst (q.map Rw.t)]) := by
      unfold b_law_program
      rw [sSeq_nx (a1 _ e1), sSeq_nx a2, sSeq_nx a3, sSeq_nx (ρ' := [.sh (.int c), .sh (.int (s : Nat)), .sh (.int (B : Nat)), .sh (.int ((1 + m : Nat) : Int)), .sh (.int (N : Nat)), .un, .un]) (by unfold sSet sLift; rw [a4]; rfl), sSeq_nx a5, sSeq_nx a6, sSeq_nx a8, fin]
    unfold fDef
    show (match b_law_program [.sh (.int c), .un, .un, .un, .un, .un, .un] with | .rt t => Res.ok t | .nx _ => .ok .non | .ex x p _ => .ex x p | _ => .bad) = _
    rw [z]
    rfl
  by_cases hend : r.ends = true
  · refine ⟨⟨B, 1 + m, rs⟩, body rs ?_, ⟨hB3, by show 1 ≤ 1 + m; omega, by show 1 + m ≤ 4; omega, by show 1 ≤ rs.length; omega, by show rs.length ≤ 20; omega, by rw [hlen]; exact h3, fun q hq => by rw [hr] at hq; cases hq; exact hend⟩, by show rs.length ≤ 16; omega⟩
    rw [hend] at a7
    rw [sIf_f a7]
    rfl
  · have hend' : r.ends = false := by cases e : r.ends with | true => exact absurd e hend | false => rfl
    rw [hend'] at a7
    obtain ⟨k2, e2, l2⟩ : ∃ k2 : Nat, (s' : Int) / 1000 % 3 / 2 = (k2 : Int) ∧ k2 < 2 := ⟨((s' : Int) / 1000 % 3 / 2).toNat, by omega, by omega⟩
    obtain ⟨g, eg, lg⟩ := mod_nat ((s' : Int) / 7) N (by omega)
    have pN : (0 : Int) < N := by omega
    have pN' : 0 < N := by omega
    obtain ⟨wr, w1, w2, w3⟩ : ∃ wr : Rw, (eB gIx (eLst (aCons (eTup (aCons (eC (.str "go")) (aCons (eB gMod (eB gDiv (eW 1) (eC (.int 7))) (eW 4)) aNil))) (aCons (eTup (aCons (eC (.str "stop")) aNil)) aNil))) (eB gDiv (eB gMod (eB gDiv (eW 1) (eC (.int 1000))) (eC (.int 3))) (eC (.int 2)))) [.sh (.int c), .sh (.int (s' : Nat)), .sh (.int (B : Nat)), .sh (.int ((1 + m : Nat) : Int)), .sh (.int (N : Nat)), .ow (.lst (rs.map Rw.t)), y] = .ok wr.t ∧ wr.ok B (1 + m) N ∧ wr.ends = true := by
      generalize (s' : Int) = z at *
      by_cases hk : k2 = 0
      · subst hk
        exact ⟨.go g, by simp [fDef, sSeq, sLift, sRet, sIf, sSet, sNew, sExp, sNx, sAsg, setT, setAll, sFrz, frz, sRaise, sApp, eB, eU, eC, eV, eW, eCh, eAnd, eOr, eNot, eIf, eTup, eLst, eNeg, eSl, oNone, oSome, aNil, aCons, eCall, Res.bind, Res.of, gI, gLen, gInt, gList, gTuple, gType, tyName, gTyIs, gIsi, gIsN', gNotN', T.isNon, T.isFn, gIx_tup, gIx_lst, gIx_fro, VS.atI_nat, atI_0, atI_1, atI_2, VS.atI_last, gEq_int, gNe_int, gAdd, gSubI, gMul, gMod, gDiv, e2, eg, pN, pN', Rw.t], by show g < N; omega, rfl⟩
      · obtain rfl : k2 = 1 := by omega
        exact ⟨.stop, by simp [fDef, sSeq, sLift, sRet, sIf, sSet, sNew, sExp, sNx, sAsg, setT, setAll, sFrz, frz, sRaise, sApp, eB, eU, eC, eV, eW, eCh, eAnd, eOr, eNot, eIf, eTup, eLst, eNeg, eSl, oNone, oSome, aNil, aCons, eCall, Res.bind, Res.of, gI, gLen, gInt, gList, gTuple, gType, tyName, gTyIs, gIsi, gIsN', gNotN', T.isNon, T.isFn, gIx_tup, gIx_lst, gIx_fro, VS.atI_nat, atI_0, atI_1, atI_2, VS.atI_last, gEq_int, gNe_int, gAdd, gSubI, gMul, gMod, gDiv, e2, eg, pN, pN', Rw.t], trivial, rfl⟩
    refine ⟨⟨B, 1 + m, rs.set (rs.length - 1) wr⟩, body _ ?_, ⟨hB3, by show 1 ≤ 1 + m; omega, by show 1 + m ≤ 4; omega, by show 1 ≤ (rs.set _ _).length; rw [List.length_set]; omega, by show (rs.set _ _).length ≤ 20; rw [List.length_set]; omega, fun q hq => ?_, fun q hq => ?_⟩, by show (rs.set _ _).length ≤ 16; rw [List.length_set]; omega⟩
    · rw [sIf_t a7, sPut_last rfl w1 (by rw [List.length_map]; omega), List.map_set, List.length_map]
      rfl
    · show q.ok B (1 + m) (rs.set _ _).length
      rw [List.length_set, hlen]
      rcases List.mem_or_eq_of_mem_set hq with m | m
      · exact h3 q m
      · rw [m]; exact w2
    · have := last_set (l := rs) (by omega) wr
      have hq' : (rs.set (rs.length - 1) wr).getLast? = some q := hq
      rw [this] at hq'
      cases hq'
      exact w3
end K08

namespace K08
open PySem PySem.Spec PyProof.Rows L2 Evl VS
/-! ### rules -/
inductive Rl where
  | is (v : Option Nat) | by_ (b : Nat) (ns : List (Option Nat))
def Rl.t : Rl → T
  | .is v => .tup [.str "is", oN v]
  | .by_ b ns => .tup [.str "by", .int b, .tup (ns.map oN)]
def Rl.ok (p q : Pg) : Rl → Prop
  | .is v => ∀ n, v = some n → n ≤ q.M
  | .by_ b ns => b < p.B ∧ ns.length = p.M + 1 ∧ ∀ n, some n ∈ ns → n ≤ q.M
def rulesT (rs : List Rl) : T := .tup (rs.map Rl.t)
structure Rls (p q : Pg) (rs : List Rl) : Prop where
  len : rs.length = q.B
  ok : ∀ r ∈ rs, r.ok p q
/-- a number, or None -/
theorem pick_ok {fa fc : FE} {ρ : Ev'} {n : Nat} {c : Bool} (h1 : fa ρ = .ok (.int (n : Nat))) (h2 : fc ρ = .ok (.bl c)) :
    (eB gIx (eLst (aCons fa (aCons (eC .non) aNil))) (eU gInt fc)) ρ = .ok (oN (if c = true then none else some n)) := by
  cases c <;> simp [eB, eLst, aCons, aNil, eC, eU, Res.bind, Res.of, gInt, h1, h2, gIx_lst, atI_0, atI_1, oN]
def bodyRl : FS := (sApp 3 (eB gIx (eLst (aCons (eB gMod (eB gDiv (eW 0) (eB gAdd (eC (.int 4)) (eB gMul (eC (.int 5)) (eW 4)))) (eB gAdd (eB gIx (eW 2) (eC (.int 1))) (eC (.int 1)))) (aCons (eC .non) aNil))) (eU gInt (eB gEq (eB gMod (eB gDiv (eW 0) (eB gAdd (eC (.int 40)) (eB gMul (eC (.int 7)) (eW 4)))) (eC (.int 23))) (eC (.int 1))))))
theorem bodyRl_ok {s : Int} {p q : Pg} {ns : List (Option Nat)} {k : Nat} (hk : k ≤ 10) (hl : ns.length ≤ 1000) : ∃ v : Option Nat, (∀ n, v = some n → n ≤ q.M) ∧
    bodyRl [.sh (.int s), .sh p.t, .sh q.t, .ow (.lst (ns.map oN)), .sh (.int (k : Nat))] = .nx [.sh (.int s), .sh p.t, .sh q.t, .ow (.lst ((ns ++ [v]).map oN)), .sh (.int (k : Nat))] := by
  have pM : (0 : Int) < (q.M : Int) + 1 := by omega
  obtain ⟨n, en, ln⟩ := mod_nat (s / (4 + 5 * (k : Int))) ((q.M : Int) + 1) pM
  have d1 := gDiv_ok (a := s) (b := 4 + 5 * (k : Int)) (by omega) (by omega)
  have d2 := gDiv_ok (a := s) (b := 40 + 7 * (k : Int)) (by omega) (by omega)
  have m1 := gMod_ok (a := s / (4 + 5 * (k : Int))) pM
  rw [en] at m1
  have m2 := gMod_ok (a := s / (40 + 7 * (k : Int))) (b := 23) (by decide)
  have w1 : gMul (.int 5) (.int (k : Int)) = some (.int (5 * (k : Int))) := by unfold gMul; simp
  have w2 : gMul (.int 7) (.int (k : Int)) = some (.int (7 * (k : Int))) := by unfold gMul; simp
  have h1 : (eB gMod (eB gDiv (eW 0) (eB gAdd (eC (.int 4)) (eB gMul (eC (.int 5)) (eW 4)))) (eB gAdd (eB gIx (eW 2) (eC (.int 1))) (eC (.int 1)))) [.sh (.int s), .sh p.t, .sh q.t, .ow (.lst (ns.map oN)), .sh (.int (k : Nat))] = .ok (.int (n : Nat)) := by
    unfold Pg.t
    simp [eB, eW, eC, Res.bind, Res.of, w1, gAdd, d1, gIx_tup, atI_1, m1]
  have h2 : (eB gEq (eB gMod (eB gDiv (eW 0) (eB gAdd (eC (.int 40)) (eB gMul (eC (.int 7)) (eW 4)))) (eC (.int 23))) (eC (.int 1))) [.sh (.int s), .sh p.t, .sh q.t, .ow (.lst (ns.map oN)), .sh (.int (k : Nat))] = .ok (.bl (decide (s / (40 + 7 * (k : Int)) % 23 = 1))) := by
    simp [eB, eW, eC, Res.bind, Res.of, w2, gAdd, d2, m2, gEq_int]
  refine ⟨if decide (s / (40 + 7 * (k : Int)) % 23 = 1) = true then none else some n, fun m e => ?_, ?_⟩
  · split at e
    · cases e
    · cases e; omega
  · unfold bodyRl
    rw [sApp_ok rfl (pick_ok h1 h2) (by rw [List.length_map]; exact lt_big hl), List.map_append]
    rfl
theorem rule_ok (s : Int) {p q : Pg} (hp : p.ok) (hq : q.ok) : ∃ r : Rl, m_law_rule [.int s, p.t, q.t] = .ok r.t ∧ r.ok p q := by
  have pM : (0 : Int) < (q.M : Int) + 1 := by omega
  have hB := hp.b3
  have hM := hp.m4
  by_cases c : (p.B : Int) = 0 ∨ s % 4 = 0
  · obtain ⟨n, en, ln⟩ := mod_nat (s / 4) ((q.M : Int) + 1) pM
    have m1 := gMod_ok (a := s / 4) pM
    rw [en] at m1
    have d1 := gDiv_ok (a := s) (b := 4) (by decide) (by decide)
    have d2 := gDiv_ok (a := s) (b := 40) (by decide) (by decide)
    have m2 := gMod_ok (a := s / 40) (b := 13) (by decide)
    have h1 : (eB gMod (eB gDiv (eW 0) (eC (.int 4))) (eB gAdd (eB gIx (eW 2) (eC (.int 1))) (eC (.int 1)))) [.sh (.int s), .sh p.t, .sh q.t, .un, .un] = .ok (.int (n : Nat)) := by
      unfold Pg.t
      simp [eB, eW, eC, Res.bind, Res.of, gAdd, d1, gIx_tup, atI_1, m1]
    have h2 : (eB gEq (eB gMod (eB gDiv (eW 0) (eC (.int 40))) (eC (.int 13))) (eC (.int 1))) [.sh (.int s), .sh p.t, .sh q.t, .un, .un] = .ok (.bl (decide (s / 40 % 13 = 1))) := by
      simp [eB, eW, eC, Res.bind, Res.of, d2, m2, gEq_int]
    have h3 := pick_ok h1 h2
    have g0 : gIx p.t (.int 0) = some (.int p.B) := rfl
    have h4 : (eOr (eB gEq (eB gIx (eW 1) (eC (.int 0))) (eC (.int 0))) (eB gEq (eB gMod (eW 0) (eC (.int 4))) (eC (.int 0)))) [.sh (.int s), .sh p.t, .sh q.t, .un, .un] = .ok (.bl true) := by
      have k := eOr_bl (fa := eB gEq (eB gIx (eW 1) (eC (.int 0))) (eC (.int 0))) (fb := eB gEq (eB gMod (eW 0) (eC (.int 4))) (eC (.int 0))) (ρ := [.sh (.int s), .sh p.t, .sh q.t, .un, .un]) (eB_ok (eB_ok rfl rfl g0) rfl (gEq_int _ _)) fun _ => eB_ok (eB_ok rfl rfl (gMod_ok (by decide))) rfl (gEq_int _ _)
      rw [k]
      rcases c with c | c
      · rw [decide_eq_true c, Bool.true_or]
      · rw [decide_eq_true c, Bool.or_true]
    refine ⟨.is (if decide (s / 40 % 13 = 1) = true then none else some n), fDef_rt (sSeq_rt ?_), fun m e => ?_⟩
    · show (sIf _ _ _) [.sh (.int s), .sh p.t, .sh q.t, .un, .un] = _
      rw [sIf_t h4]
      simp only [sRet, sLift, eTup, aCons, aNil, Res.bind, h3, eC]
      simp [Rl.t]
    · split at e
      · cases e
      · cases e; omega
  · have g0 : gIx p.t (.int 0) = some (.int p.B) := rfl
    have h4 : (eOr (eB gEq (eB gIx (eW 1) (eC (.int 0))) (eC (.int 0))) (eB gEq (eB gMod (eW 0) (eC (.int 4))) (eC (.int 0)))) [.sh (.int s), .sh p.t, .sh q.t, .un, .un] = .ok (.bl false) := by
      have k := eOr_bl (fa := eB gEq (eB gIx (eW 1) (eC (.int 0))) (eC (.int 0))) (fb := eB gEq (eB gMod (eW 0) (eC (.int 4))) (eC (.int 0))) (ρ := [.sh (.int s), .sh p.t, .sh q.t, .un, .un]) (eB_ok (eB_ok rfl rfl g0) rfl (gEq_int _ _)) fun _ => eB_ok (eB_ok rfl rfl (gMod_ok (by decide))) rfl (gEq_int _ _)
      rw [k, decide_eq_false fun z => c (.inl z), decide_eq_false fun z => c (.inr z)]
      rfl
    have pB : (0 : Int) < p.B := by
      have c1 : ¬ (p.B : Int) = 0 := fun z => c (.inl z)
      omega
    obtain ⟨b, eb, lb⟩ := mod_nat (s / 400) (p.B : Int) pB
    obtain ⟨ρ', h1, ns, y, h2, h3, h5⟩ := loop_nx (i := 4) (body := bodyRl) (fun n ρ => ∃ (ns : List (Option Nat)) (y : Sl), ρ = [.sh (.int s), .sh p.t, .sh q.t, .ow (.lst (ns.map oN)), y] ∧ ns.length = n ∧ ∀ k, some k ∈ ns → k ≤ q.M)
      ((List.range (p.M + 1)).map fun i => .int (i : Nat)) 0 [.sh (.int s), .sh p.t, .sh q.t, .ow (.lst []), .un] ⟨[], .un, rfl, rfl, fun r m => nomatch m⟩ (by
        rintro t m n h1 h2 ρ ⟨ns, y, rfl, h4, h5⟩
        obtain ⟨k, hk, rfl⟩ := List.mem_map.mp m
        rw [List.length_map, List.length_range] at h2
        rw [List.mem_range] at hk
        obtain ⟨v, hv, e3⟩ := bodyRl_ok (s := s) (p := p) (q := q) (ns := ns) (k := k) (by omega) (by omega)
        refine ⟨_, e3, ns ++ [v], _, rfl, by rw [List.length_append, List.length_singleton, h4], fun q m => ?_⟩
        rcases List.mem_append.mp m with m | m
        · exact h5 q m
        · exact hv q (List.mem_singleton.mp m).symm)
    rw [List.length_map, List.length_range, Nat.zero_add] at h3
    subst h2
    have hrg : iRg (eB gAdd (eB gIx (eW 1) (eC (.int 1))) (eC (.int 1))) [.sh (.int s), .sh p.t, .sh q.t, .ow (.lst []), .un] = .ok ((List.range (p.M + 1)).map fun i => .int (i : Nat)) := by
      have hNN : (-100000 : Int) ≤ (p.M : Int) + 1 ∧ ((p.M : Int) + 1) ≤ 100000 := ⟨by omega, by omega⟩
      have e1 : ((p.M : Int) + 1).toNat = p.M + 1 := by omega
      unfold Pg.t
      simp only [iRg, eB, eW, eC, Res.bind, Res.of, gIx_tup, atI_1, gAdd, List.getElem?_cons_zero, List.getElem?_cons_succ, if_pos hNN, e1]
    have a6 := sFor_ok hrg h1
    refine ⟨.by_ b ns, fDef_rt ?_, by show b < p.B; omega, h3, h5⟩
    show b_law_rule [.sh (.int s), .sh p.t, .sh q.t, .un, .un] = _
    have a0 : (sIf (eOr (eB gEq (eB gIx (eW 1) (eC (.int 0))) (eC (.int 0))) (eB gEq (eB gMod (eW 0) (eC (.int 4))) (eC (.int 0)))) (sRet (eTup (aCons (eC (.str "is")) (aCons (eB gIx (eLst (aCons (eB gMod (eB gDiv (eW 0) (eC (.int 4))) (eB gAdd (eB gIx (eW 2) (eC (.int 1))) (eC (.int 1)))) (aCons (eC .non) aNil))) (eU gInt (eB gEq (eB gMod (eB gDiv (eW 0) (eC (.int 40))) (eC (.int 13))) (eC (.int 1))))) aNil)))) sNx) [.sh (.int s), .sh p.t, .sh q.t, .un, .un] = .nx [.sh (.int s), .sh p.t, .sh q.t, .un, .un] := by
      rw [sIf_f h4]
      rfl
    have a1 : (sNew 3 (eLst aNil)) [.sh (.int s), .sh p.t, .sh q.t, .un, .un] = .nx [.sh (.int s), .sh p.t, .sh q.t, .ow (.lst []), .un] := rfl
    unfold b_law_rule
    unfold bodyRl at a6
    rw [sSeq_nx a0, sSeq_nx a1, sSeq_nx a6]
    have d1 := gDiv_ok (a := s) (b := 400) (by decide) (by decide)
    have m1 := gMod_ok (a := s / 400) pB
    rw [eb] at m1
    have g1 : gIx p.t (.int 0) = some (.int p.B) := rfl
    simp [sRet, sLift, eTup, aCons, aNil, eB, eU, eC, eW, Res.bind, Res.of, d1, g1, m1, gTuple, Rl.t]
theorem rules_gen {fi : FI} {i : Nat} {is : List Nat} {fe : FE} {ρ : Ev'} {p q : Pg} (hq : q.ok) (hi : fi ρ = .ok ((List.range q.B).map fun k => .int (k : Nat)))
    (h : ∀ k, k < q.B → ∃ r : Rl, fe ((wipeE ρ is).set i (.sh (.int (k : Nat)))) = .ok r.t ∧ r.ok p q) :
    ∃ rs, Rls p q rs ∧ (eU gTuple (eComp fi (.nm i) is (eC (.bl true)) fe)) ρ = .ok (rulesT rs) := by
  have h' : ∀ k, ∃ r : Rl, k < q.B → fe ((wipeE ρ is).set i (.sh (.int (k : Nat)))) = .ok r.t ∧ r.ok p q := fun k => by
    by_cases c : k < q.B
    · obtain ⟨r, hr⟩ := h k c
      exact ⟨r, fun _ => hr⟩
    · exact ⟨.is none, fun z => absurd z c⟩
  obtain ⟨R, hR⟩ := Classical.axiomOfChoice h'
  refine ⟨(List.range q.B).map R, ⟨by rw [List.length_map, List.length_range], fun r m => ?_⟩, ?_⟩
  · obtain ⟨k, hk, rfl⟩ := List.mem_map.mp m
    exact (hR k (List.mem_range.mp hk)).2
  · have e := eComp_map (f := fun k => (R k).t) hi (by rw [List.length_range]; have := hq.b3; omega) fun k m => (hR k (List.mem_range.mp m)).1
    refine eU_ok e ?_
    unfold rulesT
    rw [List.map_map]
    rfl
theorem okON (n : Nat) : ∀ l : List (Option Nat), okDs n (l.map oN) = true
  | [] => okDs_nil n
  | x :: xs => by
    rw [List.map_cons, okDs_cons, okON n xs]
    cases x with
    | none => rw [oN, okD_non]; rfl
    | some x => rw [oN, okD_int]; rfl
theorem okNs (n : Nat) (l : List Nat) : okDs n (l.map fun k => T.int (k : Nat)) = true := by
  induction l with
  | nil => exact okDs_nil n
  | cons x xs ih => rw [List.map_cons, okDs_cons, okD_int, ih]; rfl
theorem ok_numsT (n : Nat) (l : List Nat) : okD (n + 1) (numsT l) = true := by
  unfold numsT
  rw [okD_tup, okNs]
end K08

namespace K08
open PySem PySem.Spec PyProof.Rows L2 Evl VS
/-! ### places -/
structure Pl where
  row : Nat
  other : Nat
  rules : List Rl
def Pl.t (x : Pl) : T := .tup [.int x.row, .int x.other, rulesT x.rules]
structure Pl.ok (p q : Pg) (x : Pl) : Prop where
  row : x.row < p.rows.length
  other : x.other < q.rows.length
  rules : Rls p q x.rules
structure Pls (p q : Pg) (ps : List Pl) : Prop where
  ok : ∀ x ∈ ps, x.ok p q
  nd : (ps.map Pl.row).Nodup
  len : ps.length ≤ p.rows.length
theorem take_drop_mem {α : Type} {l : List α} {n : Nat} {x y : α} (h : y ∈ l.take n ++ [x] ++ l.drop n) : y = x ∨ y ∈ l := by
  rw [List.append_assoc, List.mem_append, List.mem_append, List.mem_singleton] at h
  rcases h with h | h | h
  · exact .inr (List.mem_of_mem_take h)
  · exact .inl h
  · exact .inr (List.mem_of_mem_drop h)
theorem ins_nodup {l : List Nat} {x n : Nat} (h : l.Nodup) (hx : x ∉ l) : (l.take n ++ [x] ++ l.drop n).Nodup := by
  have q : (l.take n ++ [x] ++ l.drop n).Perm (x :: l) := by
    have e : l.take n ++ [x] ++ l.drop n = l.take n ++ x :: l.drop n := by simp
    rw [e]
    refine List.perm_middle.trans ?_
    rw [List.take_append_drop]
  exact q.nodup_iff.mpr (List.nodup_cons.mpr ⟨hx, h⟩)
theorem places_ok (c : Int) {p q : Pg} (hp : p.ok) (hq : q.ok) : ∃ ps, m_law_places [.int c, p.t, q.t] = .ok (.lst (ps.map Pl.t)) ∧ Pls p q ps := by
  have hN := hp.n20
  have pN : (0 : Int) < q.rows.length := by have := hq.n1; omega
  have gp : gIx p.t (.int 2) = some (.lst (p.rows.map Rw.t)) := rfl
  have gq : gIx q.t (.int 2) = some (.lst (q.rows.map Rw.t)) := rfl
  have gq0 : gIx q.t (.int 0) = some (.int q.B) := rfl
  have hnx : ∀ z : Int, ∃ r : Nat, m_law_next [.int z] = .ok (.int (r : Nat)) := fun k => next_ok _
  have hrl : ∀ s : Nat, ∃ r : Rl, m_law_rule [.int (s : Nat), p.t, q.t] = .ok r.t ∧ r.ok p q := fun s => rule_ok s hp hq
  obtain ⟨t, h1, ps, rfl, h2⟩ : ∃ t, m_law_places [.int c, p.t, q.t] = .ok t ∧ ∃ ps : List Pl, t = .lst (ps.map Pl.t) ∧ Pls p q ps := by
    refine def_P ?_
    show Good _ (b_law_places [.sh (.int c), .sh p.t, .sh q.t, .un, .un, .un, .un, .un])
    unfold b_law_places
    generalize m_law_next = F1 at *
    generalize m_law_rule = F2 at *
    refine pNew rfl ?_
    obtain ⟨s, hs⟩ := hnx c
    refine pSet (eCall_ok (aCons_ok rfl rfl) rfl hs) ?_
    simp only [List.set_cons_succ, List.set_cons_zero]
    refine pForR (fun n ρ => ∃ (s : Nat) (ps : List Pl) (x y z : Sl), ρ = [.sh (.int c), .sh p.t, .sh q.t, .ow (.lst (ps.map Pl.t)), .sh (.int (s : Nat)), x, y, z] ∧ (∀ x ∈ ps, x.ok p q ∧ x.row < n) ∧ (ps.map Pl.row).Nodup ∧ ps.length ≤ n) (N := p.rows.length)
      (iRg_ok (eU_ok (eB_ok rfl rfl gp) (gLen_map _ _)) (by omega)) ⟨s, [], .un, .un, .un, rfl, fun x m => (nomatch m), by simp, Nat.le_refl _⟩ ?_ ?_
    · rintro k hk ρ ⟨s, ps, x, y, z, rfl, i1, i2, i3⟩
      obtain ⟨s1, hs1⟩ := hnx ((s : Int) + (k : Int))
      obtain ⟨m3, em3, lm3⟩ := mod_nat (s1 : Int) 3 (by decide)
      refine pSet (eCall_ok (aCons_ok (eB_ok rfl rfl rfl) rfl) rfl hs1) ?_
      simp only [List.set_cons_succ, List.set_cons_zero]
      have g3 : gMod (.int (s1 : Nat)) (.int 3) = some (.int (m3 : Nat)) := by rw [gMod_ok (by decide), em3]
      refine pIf (b := decide ((0 : Int) < (m3 : Nat))) (eB_ok (eB_ok rfl rfl g3) rfl rfl) (fun _ => ?_) (fun _ => ?_)
      · obtain ⟨rs, hrs, e4⟩ := rules_gen (fi := iRg (eB gIx (eW 2) (eC (.int 0)))) (i := 7) (is := [7]) (fe := eCall 3 F2 (aCons (eCall 1 F1 (aCons (eB gAdd (eW 4) (eB gMul (eC (.int 7)) (eW 7))) aNil)) (aCons (eV 1) (aCons (eV 2) aNil))))
          (ρ := [.sh (.int c), .sh p.t, .sh q.t, .ow (.lst (ps.map Pl.t)), .sh (.int (s1 : Nat)), .sh (.int (k : Nat)), y, z]) (p := p) (q := q) hq (iRg_ok (eB_ok rfl rfl gq0) (by have := hq.b3; omega)) fun j hj => by
            obtain ⟨r, hr⟩ := hnx ((s1 : Int) + 7 * (j : Int))
            obtain ⟨rl, h1, h2⟩ := hrl r
            exact ⟨rl, eCall_ok (aCons_ok (eCall_ok (aCons_ok (eB_ok rfl (eB_ok rfl rfl (gMulL (by decide) (by decide))) rfl) rfl) rfl hr) (aCons_ok rfl (aCons_ok rfl rfl))) rfl h1, h2⟩
        refine pSet e4 ?_
        simp only [List.set_cons_succ, List.set_cons_zero]
        obtain ⟨o, eo, lo⟩ := mod_nat ((s1 : Int) / 5) q.rows.length pN
        obtain ⟨at_, ea, la⟩ := mod_nat ((s1 : Int) / 9) ((ps.length : Int) + 1) (by omega)
        have d9 := gDiv_ok (a := (s1 : Int)) (b := 9) (by decide) (by decide)
        have d5 := gDiv_ok (a := (s1 : Int)) (b := 5) (by decide) (by decide)
        have m9 : gMod (.int ((s1 : Int) / 9)) (.int ((ps.length : Int) + 1)) = some (.int (at_ : Nat)) := by rw [gMod_ok (by omega), ea]
        have m5 : gMod (.int ((s1 : Int) / 5)) (.int (q.rows.length : Nat)) = some (.int (o : Nat)) := by rw [gMod_ok pN, eo]
        refine ⟨_, sIns_ok (i := 3) (l := ps.map Pl.t) (n := at_) (t := Pl.t ⟨k, o, rs⟩) rfl (eB_ok (eB_ok rfl rfl d9) (eB_ok (eU_ok rfl (gLen_map _ _)) rfl rfl) m9) ?_ (by rw [List.length_map]; omega) (by omega), s1, ps.take at_ ++ [⟨k, o, rs⟩] ++ ps.drop at_, .sh (.int (k : Nat)), .sh (rulesT rs), z, ?_, ?_, ?_, ?_⟩
        · exact eTup_ok (aCons_ok rfl (aCons_ok (eB_ok (eB_ok rfl rfl d5) (eU_ok (eB_ok rfl rfl gq) (gLen_map _ _)) m5) (aCons_ok rfl rfl))) (by show 3 ≤ 1000; decide)
        · simp only [List.set_cons_succ, List.set_cons_zero, List.map_append, List.map_take, List.map_drop, List.map_cons, List.map_nil]
        · intro x mx
          rcases take_drop_mem mx with rfl | mx
          · exact ⟨⟨hk, by show o < q.rows.length; omega, hrs⟩, Nat.lt_succ_self k⟩
          · exact ⟨(i1 x mx).1, Nat.lt_succ_of_lt (i1 x mx).2⟩
        · rw [List.map_append, List.map_append, List.map_take, List.map_drop]
          refine ins_nodup i2 fun mx => ?_
          obtain ⟨x, hx, ex⟩ := List.mem_map.mp mx
          have := (i1 x hx).2
          have ex' : x.row = k := ex
          omega
        · rw [List.length_append, List.length_append, List.length_singleton, List.length_take, List.length_drop]
          omega
      · exact ⟨_, rfl, s1, ps, _, _, _, rfl, fun x mx => ⟨(i1 x mx).1, Nat.lt_succ_of_lt (i1 x mx).2⟩, i2, by omega⟩
    · rintro ρ ⟨s, ps, x, y, z, rfl, i1, i2, i3⟩
      exact ⟨.lst (ps.map Pl.t), rfl, ps, rfl, ⟨fun x m => (i1 x m).1, i2, i3⟩⟩
  exact ⟨ps, h1, h2⟩
end K08

namespace K08
open PySem PySem.Spec PyProof.Rows L2 Evl VS
/-! ### the data -/
/-- plain things -/
def pln (t : T) : Bool := (tyName t).isSome
def wh (t : T) (lo hi : Int) : Bool := match t with
  | .int i => decide (lo ≤ i) && decide (i ≤ hi)
  | _ => false
theorem whole_eq (t : T) (lo hi : Int) (h : pln t = true) : m_whole [t, .int lo, .int hi] = .ok (.bl (wh t lo hi)) := by
  cases t <;> first | (cases h; done) | skip
  all_goals first | (simp [m_whole, b_whole, wh, fDef, sSeq, sLift, sRet, sIf, sSet, sNew, sExp, sNx, sAsg, setT, setAll, sFrz, frz, sRaise, sApp, eB, eU, eC, eV, eW, eCh, eAnd, eOr, eNot, eIf, eTup, eLst, eNeg, eSl, oNone, oSome, aNil, aCons, eCall, Res.bind, Res.of, gI, gLen, gInt, gList, gTuple, gType, tyName, gTyIs, gIsi, gIsN', gNotN', T.isNon, T.isFn, gIx_tup, gIx_lst, gIx_fro, VS.atI_nat, atI_0, atI_1, atI_2, VS.atI_last, gEq_int, gNe_int, gAdd, gSubI, gMul, gMod, gDiv]; done) | skip
  rename_i i
  by_cases h1 : lo ≤ i <;> by_cases h2 : i ≤ hi <;> simp [m_whole, b_whole, wh, fDef, sSeq, sLift, sRet, sIf, sSet, sNew, sExp, sNx, sAsg, setT, setAll, sFrz, frz, sRaise, sApp, eB, eU, eC, eV, eW, eCh, eAnd, eOr, eNot, eIf, eTup, eLst, eNeg, eSl, oNone, oSome, aNil, aCons, eCall, Res.bind, Res.of, gI, gLen, gInt, gList, gTuple, gType, tyName, gTyIs, gIsi, gIsN', gNotN', T.isNon, T.isFn, gIx_tup, gIx_lst, gIx_fro, VS.atI_nat, atI_0, atI_1, atI_2, VS.atI_last, gEq_int, gNe_int, gAdd, gSubI, gMul, gMod, gDiv, h1, h2]
theorem whole_nat (n lo hi : Nat) : m_whole [.int (n : Nat), .int (lo : Nat), .int (hi : Nat)] = .ok (.bl (decide (lo ≤ n) && decide (n ≤ hi))) := by
  rw [whole_eq _ _ _ rfl]
  simp [wh]

theorem pk_put : gGGet tbl_PARTS (.str "put") = some (.tup [.str "box", .str "number"]) := by rfl
theorem pk_more : gGGet tbl_PARTS (.str "more") = some (.tup [.str "box"]) := by rfl
theorem pk_copy : gGGet tbl_PARTS (.str "copy") = some (.tup [.str "box", .str "box"]) := by rfl
theorem pk_tell : gGGet tbl_PARTS (.str "tell") = some (.tup [.str "box"]) := by rfl
theorem pk_go : gGGet tbl_PARTS (.str "go") = some (.tup [.str "row"]) := by rfl
theorem pk_ask : gGGet tbl_PARTS (.str "ask") = some (.tup [.str "box", .str "row"]) := by rfl
theorem pk_stop : gGGet tbl_PARTS (.str "stop") = some (.tup []) := by rfl
theorem pi_put : gGIn true tbl_PARTS miss_PARTS (.str "put") = some (.bl false) := by rfl
theorem pi_more : gGIn true tbl_PARTS miss_PARTS (.str "more") = some (.bl false) := by rfl
theorem pi_copy : gGIn true tbl_PARTS miss_PARTS (.str "copy") = some (.bl false) := by rfl
theorem pi_tell : gGIn true tbl_PARTS miss_PARTS (.str "tell") = some (.bl false) := by rfl
theorem pi_go : gGIn true tbl_PARTS miss_PARTS (.str "go") = some (.bl false) := by rfl
theorem pi_ask : gGIn true tbl_PARTS miss_PARTS (.str "ask") = some (.bl false) := by rfl
theorem pi_stop : gGIn true tbl_PARTS miss_PARTS (.str "stop") = some (.bl false) := by rfl
theorem dg_box (a b c : T) : gDGet (.dic [.str "box", .str "number", .str "row"] [a, b, c]) (.str "box") = some a := by rfl
theorem dg_number (a b c : T) : gDGet (.dic [.str "box", .str "number", .str "row"] [a, b, c]) (.str "number") = some b := by rfl
theorem dg_row (a b c : T) : gDGet (.dic [.str "box", .str "number", .str "row"] [a, b, c]) (.str "row") = some c := by rfl
theorem disp3 (f g h : FE) (ρ : Ev') : eDisp [("box", f), ("number", g), ("row", h)] ρ = (f ρ).bind fun a => (g ρ).bind fun b => (h ρ).bind fun c => .ok (.dic [.str "box", .str "number", .str "row"] [a, b, c]) := by
  unfold eDisp
  simp only [evs]
  cases f ρ with
  | ok a =>
    cases g ρ with
    | ok b =>
      cases h ρ with
      | ok c =>
        simp only [Res.bind]
        rw [if_pos ⟨(by decide +kernel : (["box", "number", "row"] : List Str).Nodup), (by decide : 3 ≤ 15)⟩]
        rfl
      | ex x p => rfl
      | bad => rfl
    | ex x p => rfl
    | bad => rfl
  | ex x p => rfl
  | bad => rfl
theorem wh_box {b B : Nat} (h : b < B) : m_whole [.int (b : Nat), .int 0, .int ((B : Nat) - 1)] = .ok (.bl true) := by
  rw [whole_eq _ _ _ rfl]
  simp only [wh]
  rw [decide_eq_true (by omega : (0 : Int) ≤ b), decide_eq_true (by omega : (b : Int) ≤ (B : Int) - 1)]
  rfl
theorem wh_num {b B : Nat} (h : b ≤ B) : m_whole [.int (b : Nat), .int 0, .int (B : Nat)] = .ok (.bl true) := by
  rw [whole_eq _ _ _ rfl]
  simp only [wh]
  rw [decide_eq_true (by omega : (0 : Int) ≤ b), decide_eq_true (by omega : (b : Int) ≤ (B : Int))]
  rfl
theorem is_row_ok {B M N : Nat} {r : Rw} (h : r.ok B M N) : m_is_row [r.t, .int B, .int M, .int N] = .ok (.bl true) := by
  cases r with
  | put b n =>
    obtain ⟨h1, h2⟩ := h
    simp [m_is_row, b_is_row, Rw.t, fDef, sSeq, sLift, sRet, sIf, sSet, sNew, sExp, sNx, sAsg, setT, setAll, sFrz, frz, sRaise, sApp, eB, eU, eC, eV, eW, eCh, eAnd, eOr, eNot, eIf, eTup, eLst, eNeg, eSl, oNone, oSome, aNil, aCons, eCall, Res.bind, Res.of, gI, gLen, gInt, gList, gTuple, gType, tyName, gTyIs, gIsi, gIsN', gNotN', T.isNon, T.isFn, gIx_tup, gIx_lst, gIx_fro, VS.atI_nat, atI_0, atI_1, atI_2, VS.atI_last, gEq_int, gNe_int, gAdd, gSubI, gMul, gMod, gDiv, iEn, VS.items?, enumL, eComp, wipeE, compF, pk_put, pi_put, dg_box, dg_number, dg_row, disp3, wh_box h1, wh_num h2, gAll, bls]
  | more b => simp [m_is_row, b_is_row, Rw.t, fDef, sSeq, sLift, sRet, sIf, sSet, sNew, sExp, sNx, sAsg, setT, setAll, sFrz, frz, sRaise, sApp, eB, eU, eC, eV, eW, eCh, eAnd, eOr, eNot, eIf, eTup, eLst, eNeg, eSl, oNone, oSome, aNil, aCons, eCall, Res.bind, Res.of, gI, gLen, gInt, gList, gTuple, gType, tyName, gTyIs, gIsi, gIsN', gNotN', T.isNon, T.isFn, gIx_tup, gIx_lst, gIx_fro, VS.atI_nat, atI_0, atI_1, atI_2, VS.atI_last, gEq_int, gNe_int, gAdd, gSubI, gMul, gMod, gDiv, iEn, VS.items?, enumL, eComp, wipeE, compF, pk_more, pi_more, dg_box, dg_number, dg_row, disp3, wh_box h, gAll, bls]
  | copy b o =>
    obtain ⟨h1, h2⟩ := h
    simp [m_is_row, b_is_row, Rw.t, fDef, sSeq, sLift, sRet, sIf, sSet, sNew, sExp, sNx, sAsg, setT, setAll, sFrz, frz, sRaise, sApp, eB, eU, eC, eV, eW, eCh, eAnd, eOr, eNot, eIf, eTup, eLst, eNeg, eSl, oNone, oSome, aNil, aCons, eCall, Res.bind, Res.of, gI, gLen, gInt, gList, gTuple, gType, tyName, gTyIs, gIsi, gIsN', gNotN', T.isNon, T.isFn, gIx_tup, gIx_lst, gIx_fro, VS.atI_nat, atI_0, atI_1, atI_2, VS.atI_last, gEq_int, gNe_int, gAdd, gSubI, gMul, gMod, gDiv, iEn, VS.items?, enumL, eComp, wipeE, compF, pk_copy, pi_copy, dg_box, dg_number, dg_row, disp3, wh_box h1, wh_box h2, gAll, bls]
  | tell b => simp [m_is_row, b_is_row, Rw.t, fDef, sSeq, sLift, sRet, sIf, sSet, sNew, sExp, sNx, sAsg, setT, setAll, sFrz, frz, sRaise, sApp, eB, eU, eC, eV, eW, eCh, eAnd, eOr, eNot, eIf, eTup, eLst, eNeg, eSl, oNone, oSome, aNil, aCons, eCall, Res.bind, Res.of, gI, gLen, gInt, gList, gTuple, gType, tyName, gTyIs, gIsi, gIsN', gNotN', T.isNon, T.isFn, gIx_tup, gIx_lst, gIx_fro, VS.atI_nat, atI_0, atI_1, atI_2, VS.atI_last, gEq_int, gNe_int, gAdd, gSubI, gMul, gMod, gDiv, iEn, VS.items?, enumL, eComp, wipeE, compF, pk_tell, pi_tell, dg_box, dg_number, dg_row, disp3, wh_box h, gAll, bls]
  | go r => simp [m_is_row, b_is_row, Rw.t, fDef, sSeq, sLift, sRet, sIf, sSet, sNew, sExp, sNx, sAsg, setT, setAll, sFrz, frz, sRaise, sApp, eB, eU, eC, eV, eW, eCh, eAnd, eOr, eNot, eIf, eTup, eLst, eNeg, eSl, oNone, oSome, aNil, aCons, eCall, Res.bind, Res.of, gI, gLen, gInt, gList, gTuple, gType, tyName, gTyIs, gIsi, gIsN', gNotN', T.isNon, T.isFn, gIx_tup, gIx_lst, gIx_fro, VS.atI_nat, atI_0, atI_1, atI_2, VS.atI_last, gEq_int, gNe_int, gAdd, gSubI, gMul, gMod, gDiv, iEn, VS.items?, enumL, eComp, wipeE, compF, pk_go, pi_go, dg_box, dg_number, dg_row, disp3, wh_box h, gAll, bls]
  | ask b r =>
    obtain ⟨h1, h2⟩ := h
    simp [m_is_row, b_is_row, Rw.t, fDef, sSeq, sLift, sRet, sIf, sSet, sNew, sExp, sNx, sAsg, setT, setAll, sFrz, frz, sRaise, sApp, eB, eU, eC, eV, eW, eCh, eAnd, eOr, eNot, eIf, eTup, eLst, eNeg, eSl, oNone, oSome, aNil, aCons, eCall, Res.bind, Res.of, gI, gLen, gInt, gList, gTuple, gType, tyName, gTyIs, gIsi, gIsN', gNotN', T.isNon, T.isFn, gIx_tup, gIx_lst, gIx_fro, VS.atI_nat, atI_0, atI_1, atI_2, VS.atI_last, gEq_int, gNe_int, gAdd, gSubI, gMul, gMod, gDiv, iEn, VS.items?, enumL, eComp, wipeE, compF, pk_ask, pi_ask, dg_box, dg_number, dg_row, disp3, wh_box h1, wh_box h2, gAll, bls]
  | stop => simp [m_is_row, b_is_row, Rw.t, fDef, sSeq, sLift, sRet, sIf, sSet, sNew, sExp, sNx, sAsg, setT, setAll, sFrz, frz, sRaise, sApp, eB, eU, eC, eV, eW, eCh, eAnd, eOr, eNot, eIf, eTup, eLst, eNeg, eSl, oNone, oSome, aNil, aCons, eCall, Res.bind, Res.of, gI, gLen, gInt, gList, gTuple, gType, tyName, gTyIs, gIsi, gIsN', gNotN', T.isNon, T.isFn, gIx_tup, gIx_lst, gIx_fro, VS.atI_nat, atI_0, atI_1, atI_2, VS.atI_last, gEq_int, gNe_int, gAdd, gSubI, gMul, gMod, gDiv, iEn, VS.items?, enumL, eComp, wipeE, compF, pk_stop, pi_stop, dg_box, dg_number, dg_row, disp3, gAll, bls]

theorem is_program_ok {p : Pg} (h : p.ok) : m_is_program [p.t] = .ok (.bl true) := by
  have h1 : m_whole [.int (p.B : Nat), .int 0, .int 3] = .ok (.bl true) := by
    have := wh_num (b := p.B) (B := 3) h.b3
    exact this
  have h2 : m_whole [.int (p.M : Nat), .int 1, .int 4] = .ok (.bl true) := by
    rw [whole_eq _ _ _ rfl]
    simp only [wh]
    rw [decide_eq_true (by have := h.m1; omega : (1 : Int) ≤ p.M), decide_eq_true (by have := h.m4; omega : (p.M : Int) ≤ 4)]
    rfl
  have h3 : (1 : Int) ≤ (p.rows.length : Nat) := by have := h.n1; omega
  have h4 : ((p.rows.length : Nat) : Int) ≤ 20 := by have := h.n20; omega
  have h5 : ∀ a b c d e : T, eU gAll (eComp (iIt (eV 3)) (.nm 4) [4] (eC (.bl true)) (eCall 4 m_is_row (aCons (eV 4) (aCons (eV 1) (aCons (eV 2) (aCons (eU gLen (eW 3)) aNil)))))) [.sh a, .sh (.int p.B), .sh (.int p.M), .sh (.lst (p.rows.map Rw.t)), .un] = .ok (.bl ((p.rows.map Rw.t).all fun _ => true)) := by
    intro a b c d e
    refine eAll_comp (l := p.rows.map Rw.t) (f := fun _ => true) rfl (by rw [List.length_map]; have := h.n20; omega) fun t m => ?_
    obtain ⟨r, hr, rfl⟩ := List.mem_map.mp m
    have := is_row_ok (h.rows r hr)
    simp [wipeE, fDef, sSeq, sLift, sRet, sIf, sSet, sNew, sExp, sNx, sAsg, setT, setAll, sFrz, frz, sRaise, sApp, eB, eU, eC, eV, eW, eCh, eAnd, eOr, eNot, eIf, eTup, eLst, eNeg, eSl, oNone, oSome, aNil, aCons, eCall, Res.bind, Res.of, gI, gLen, gInt, gList, gTuple, gType, tyName, gTyIs, gIsi, gIsN', gNotN', T.isNon, T.isFn, gIx_tup, gIx_lst, gIx_fro, VS.atI_nat, atI_0, atI_1, atI_2, VS.atI_last, gEq_int, gNe_int, gAdd, gSubI, gMul, gMod, gDiv, this]
  obtain ⟨r, hr⟩ : ∃ r, p.rows.getLast? = some r := by
    cases e : p.rows.getLast? with
    | some r => exact ⟨r, rfl⟩
    | none => rw [List.getLast?_eq_none_iff] at e; have := h.n1; rw [e] at this; exact absurd this (by decide)
  obtain ⟨k, l, e1, e2⟩ := rowT_kind r
  rw [h.last r hr] at e2
  have h6 : (p.rows.map Rw.t).getLast? = some (.tup (.str k :: l)) := by rw [getLast_map, hr, ← e1]; rfl
  have h7 := h5 (.tup [.int p.B, .int p.M, .lst (p.rows.map Rw.t)]) .non .non .non .non
  have h8 : ((p.rows.map Rw.t).all fun _ => true) = true := by simp
  rw [h8] at h7
  unfold m_is_program b_is_program Pg.t
  simp only [fDef, sSeq, sIf, sRet, sNx, sLift, sAsg]
  simp [fDef, sSeq, sLift, sRet, sIf, sSet, sNew, sExp, sNx, sAsg, setT, setAll, sFrz, frz, sRaise, sApp, eB, eU, eC, eV, eW, eCh, eAnd, eOr, eNot, eIf, eTup, eLst, eNeg, eSl, oNone, oSome, aNil, aCons, eCall, Res.bind, Res.of, gI, gLen, gInt, gList, gTuple, gType, tyName, gTyIs, gIsi, gIsN', gNotN', T.isNon, T.isFn, gIx_tup, gIx_lst, gIx_fro, VS.atI_nat, atI_0, atI_1, atI_2, VS.atI_last, gEq_int, gNe_int, gAdd, gSubI, gMul, gMod, gDiv, h1, h2, h3, h4, h6, e2] at h7 ⊢
  simp [h7, fDef, sSeq, sLift, sRet, sIf, sSet, sNew, sExp, sNx, sAsg, setT, setAll, sFrz, frz, sRaise, sApp, eB, eU, eC, eV, eW, eCh, eAnd, eOr, eNot, eIf, eTup, eLst, eNeg, eSl, oNone, oSome, aNil, aCons, eCall, Res.bind, Res.of, gI, gLen, gInt, gList, gTuple, gType, tyName, gTyIs, gIsi, gIsN', gNotN', T.isNon, T.isFn, gIx_tup, gIx_lst, gIx_fro, VS.atI_nat, atI_0, atI_1, atI_2, VS.atI_last, gEq_int, gNe_int, gAdd, gSubI, gMul, gMod, gDiv, h6, e2]

theorem need_program_ok {p : Pg} (h : p.ok) : m_need_program [p.t] = .ok p.t := by
  have h1 := is_program_ok h
  unfold m_need_program b_need_program
  simp [fDef, sSeq, sLift, sRet, sIf, sSet, sNew, sExp, sNx, sAsg, setT, setAll, sFrz, frz, sRaise, sApp, eB, eU, eC, eV, eW, eCh, eAnd, eOr, eNot, eIf, eTup, eLst, eNeg, eSl, oNone, oSome, aNil, aCons, eCall, Res.bind, Res.of, gI, gLen, gInt, gList, gTuple, gType, tyName, gTyIs, gIsi, gIsN', gNotN', T.isNon, T.isFn, gIx_tup, gIx_lst, gIx_fro, VS.atI_nat, atI_0, atI_1, atI_2, VS.atI_last, gEq_int, gNe_int, gAdd, gSubI, gMul, gMod, gDiv, h1]
theorem okRow (r : Rw) : okD 18 r.t = true := by
  cases r <;> simp [Rw.t, okD_tup, okDs_cons, okDs_nil, okD_int, o_put, o_more, o_copy, o_tell, o_go, o_ask, o_stop]
theorem okRows (l : List Rw) : okDs 18 (l.map Rw.t) = true := by
  induction l with
  | nil => exact okDs_nil 18
  | cons x xs ih => rw [List.map_cons, okDs_cons, okRow, ih]; rfl
theorem okPg (p : Pg) : okD 20 p.t = true := by
  unfold Pg.t
  rw [okD_tup, okDs_cons, okDs_cons, okDs_cons, okDs_nil, okD_int, okD_int, okD_lst, okRows]
  rfl
end K08

namespace K08
open PySem PySem.Spec PyProof.Rows L2 Evl VS
def stT (at_ : Nat) (l : List Nat) : T := .tup [.int (at_ : Nat), numsT l]
/-! ### a step -/
def nx (p : Pg) (i : Nat) (l : List Nat) : Rw → Option (Nat × List Nat)
  | .put b n => some (i + 1, l.set b n)
  | .more b => some (i + 1, l.set b (if (l[b]?).getD 0 = p.M then 0 else (l[b]?).getD 0 + 1))
  | .copy b o => some (i + 1, l.set b ((l[o]?).getD 0))
  | .tell b => some (i + 1, l)
  | .go r => some (r, l)
  | .ask b r => some (if (l[b]?).getD 0 = 0 then r else i + 1, l)
  | .stop => none
def tl (l : List Nat) : Rw → Option Nat
  | .tell b => some ((l[b]?).getD 0)
  | _ => none
def oS : Option (Nat × List Nat) → T
  | none => .non
  | some (i, l) => stT i l
def stepT (p : Pg) (i : Nat) (l : List Nat) (r : Rw) : T := .tup [oS (nx p i l r), oN (tl l r)]
theorem numsT_at {l : List Nat} {b : Nat} (h : b < l.length) : (l.map fun n => T.int (n : Nat))[b]? = some (.int ((l[b]?).getD 0 : Nat)) := by
  rw [List.getElem?_map, List.getElem?_eq_getElem h]
  rfl
theorem cutT_lo {α : Type} (l : List α) (b : Nat) : cutT l none (some (b : Int)) = l.take b := by
  unfold cutT HT.sIx
  simp only [List.drop_zero, Nat.sub_zero]
  rw [if_neg (by omega), Int.toNat_natCast]
  by_cases h : b ≤ l.length
  · rw [Nat.min_eq_left h]
  · rw [Nat.min_eq_right (by omega), List.take_of_length_le (Nat.le_refl _), List.take_of_length_le (by omega)]
theorem cutT_hi {α : Type} (l : List α) (b : Nat) : cutT l (some ((b : Int) + 1)) none = l.drop (b + 1) := by
  unfold cutT HT.sIx
  simp only []
  rw [if_neg (by omega)]
  have e : ((b : Int) + 1).toNat = b + 1 := by omega
  rw [e]
  by_cases h : b + 1 ≤ l.length
  · rw [Nat.min_eq_left h, List.take_of_length_le (by rw [List.length_drop]; exact Nat.le_refl _)]
  · rw [Nat.min_eq_right (by omega), Nat.sub_self, List.take_zero, List.drop_eq_nil_of_le (by omega)]
theorem take_set_drop {α : Type} {l : List α} {b : Nat} (x : α) (h : b < l.length) : l.take b ++ [x] ++ l.drop (b + 1) = l.set b x := by
  induction l generalizing b with
  | nil => cases h
  | cons a r ih => cases b with
    | zero => rfl
    | succ k =>
      have := ih (b := k) (by simpa using h)
      simp only [List.take_succ_cons, List.cons_append, List.drop_succ_cons, List.set_cons_succ]
      rw [← this]
theorem replaced_ok {l : List Nat} {b n : Nat} (h : b < l.length) (h3 : l.length ≤ 3) : m_replaced [numsT l, .int (b : Nat), .int (n : Nat)] = .ok (numsT (l.set b n)) := by
  have h1 := cutT_lo (l.map fun n => T.int (n : Nat)) b
  have h2 := cutT_hi (l.map fun n => T.int (n : Nat)) b
  have h4 := take_set_drop (l := l.map fun n => T.int (n : Nat)) (b := b) (.int (n : Nat)) (by rw [List.length_map]; exact h)
  have h5 : (l.set b n).map (fun n => T.int (n : Nat)) = (l.map fun n => T.int (n : Nat)).set b (.int (n : Nat)) := by rw [List.map_set]
  unfold m_replaced b_replaced numsT
  rw [h5, ← h4]
  have e1 : min b l.length + 1 ≤ 100000 := by omega
  have e2 : min b l.length + 1 + (l.length - (b + 1)) ≤ 100000 := by omega
  simp [fDef, sSeq, sLift, sRet, sIf, sSet, sNew, sExp, sNx, sAsg, setT, setAll, sFrz, frz, sRaise, sApp, eB, eU, eC, eV, eW, eCh, eAnd, eOr, eNot, eIf, eTup, eLst, eNeg, eSl, oNone, oSome, aNil, aCons, eCall, Res.bind, Res.of, gI, gLen, gInt, gList, gTuple, gType, tyName, gTyIs, gIsi, gIsN', gNotN', T.isNon, T.isFn, gIx_tup, gIx_lst, gIx_fro, VS.atI_nat, atI_0, atI_1, atI_2, VS.atI_last, gEq_int, gNe_int, gAdd, gSubI, gMul, gMod, gDiv, gSl, h1, h2, e1, e2]
theorem written_put {M b n : Nat} {l : List Nat} : m_written [.int (M : Nat), .tup [.str "put", .int (b : Nat), .int (n : Nat)], numsT l] = .ok (.int (n : Nat)) := by
  unfold m_written b_written
  simp [fDef, sSeq, sLift, sRet, sIf, sSet, sNew, sExp, sNx, sAsg, setT, setAll, sFrz, frz, sRaise, sApp, eB, eU, eC, eV, eW, eCh, eAnd, eOr, eNot, eIf, eTup, eLst, eNeg, eSl, oNone, oSome, aNil, aCons, eCall, Res.bind, Res.of, gI, gLen, gInt, gList, gTuple, gType, tyName, gTyIs, gIsi, gIsN', gNotN', T.isNon, T.isFn, gIx_tup, gIx_lst, gIx_fro, VS.atI_nat, atI_0, atI_1, atI_2, VS.atI_last, gEq_int, gNe_int, gAdd, gSubI, gMul, gMod, gDiv, q_put_put, q_put_more, q_put_copy, q_put_tell, q_put_go, q_put_ask, q_put_stop, q_more_put, q_more_more, q_more_copy, q_more_tell, q_more_go, q_more_ask, q_more_stop, q_copy_put, q_copy_more, q_copy_copy, q_copy_tell, q_copy_go, q_copy_ask, q_copy_stop, q_tell_put, q_tell_more, q_tell_copy, q_tell_tell, q_tell_go, q_tell_ask, q_tell_stop, q_go_put, q_go_more, q_go_copy, q_go_tell, q_go_go, q_go_ask, q_go_stop, q_ask_put, q_ask_more, q_ask_copy, q_ask_tell, q_ask_go, q_ask_ask, q_ask_stop, q_stop_put, q_stop_more, q_stop_copy, q_stop_tell, q_stop_go, q_stop_ask, q_stop_stop]
theorem written_copy {M b o : Nat} {l : List Nat} (h : o < l.length) : m_written [.int (M : Nat), .tup [.str "copy", .int (b : Nat), .int (o : Nat)], numsT l] = .ok (.int ((l[o]?).getD 0 : Nat)) := by
  have h1 := numsT_at h
  unfold m_written b_written numsT
  simp only [List.getElem?_map] at h1
  simp [fDef, sSeq, sLift, sRet, sIf, sSet, sNew, sExp, sNx, sAsg, setT, setAll, sFrz, frz, sRaise, sApp, eB, eU, eC, eV, eW, eCh, eAnd, eOr, eNot, eIf, eTup, eLst, eNeg, eSl, oNone, oSome, aNil, aCons, eCall, Res.bind, Res.of, gI, gLen, gInt, gList, gTuple, gType, tyName, gTyIs, gIsi, gIsN', gNotN', T.isNon, T.isFn, gIx_tup, gIx_lst, gIx_fro, VS.atI_nat, atI_0, atI_1, atI_2, VS.atI_last, gEq_int, gNe_int, gAdd, gSubI, gMul, gMod, gDiv, q_put_put, q_put_more, q_put_copy, q_put_tell, q_put_go, q_put_ask, q_put_stop, q_more_put, q_more_more, q_more_copy, q_more_tell, q_more_go, q_more_ask, q_more_stop, q_copy_put, q_copy_more, q_copy_copy, q_copy_tell, q_copy_go, q_copy_ask, q_copy_stop, q_tell_put, q_tell_more, q_tell_copy, q_tell_tell, q_tell_go, q_tell_ask, q_tell_stop, q_go_put, q_go_more, q_go_copy, q_go_tell, q_go_go, q_go_ask, q_go_stop, q_ask_put, q_ask_more, q_ask_copy, q_ask_tell, q_ask_go, q_ask_ask, q_ask_stop, q_stop_put, q_stop_more, q_stop_copy, q_stop_tell, q_stop_go, q_stop_ask, q_stop_stop, h1]
theorem written_more {M b : Nat} {l : List Nat} (h : b < l.length) : m_written [.int (M : Nat), .tup [.str "more", .int (b : Nat)], numsT l] = .ok (.int ((if (l[b]?).getD 0 = M then 0 else (l[b]?).getD 0 + 1 : Nat) : Nat)) := by
  have h1 := numsT_at h
  unfold m_written b_written numsT
  simp only [List.getElem?_map] at h1
  by_cases e : (l[b]?).getD 0 = M
  · have e' : (((l[b]?).getD 0 : Nat) : Int) = M := by rw [e]
    simp [fDef, sSeq, sLift, sRet, sIf, sSet, sNew, sExp, sNx, sAsg, setT, setAll, sFrz, frz, sRaise, sApp, eB, eU, eC, eV, eW, eCh, eAnd, eOr, eNot, eIf, eTup, eLst, eNeg, eSl, oNone, oSome, aNil, aCons, eCall, Res.bind, Res.of, gI, gLen, gInt, gList, gTuple, gType, tyName, gTyIs, gIsi, gIsN', gNotN', T.isNon, T.isFn, gIx_tup, gIx_lst, gIx_fro, VS.atI_nat, atI_0, atI_1, atI_2, VS.atI_last, gEq_int, gNe_int, gAdd, gSubI, gMul, gMod, gDiv, q_put_put, q_put_more, q_put_copy, q_put_tell, q_put_go, q_put_ask, q_put_stop, q_more_put, q_more_more, q_more_copy, q_more_tell, q_more_go, q_more_ask, q_more_stop, q_copy_put, q_copy_more, q_copy_copy, q_copy_tell, q_copy_go, q_copy_ask, q_copy_stop, q_tell_put, q_tell_more, q_tell_copy, q_tell_tell, q_tell_go, q_tell_ask, q_tell_stop, q_go_put, q_go_more, q_go_copy, q_go_tell, q_go_go, q_go_ask, q_go_stop, q_ask_put, q_ask_more, q_ask_copy, q_ask_tell, q_ask_go, q_ask_ask, q_ask_stop, q_stop_put, q_stop_more, q_stop_copy, q_stop_tell, q_stop_go, q_stop_ask, q_stop_stop, h1, e, e']
  · have e' : ¬ (((l[b]?).getD 0 : Nat) : Int) = M := by omega
    simp [fDef, sSeq, sLift, sRet, sIf, sSet, sNew, sExp, sNx, sAsg, setT, setAll, sFrz, frz, sRaise, sApp, eB, eU, eC, eV, eW, eCh, eAnd, eOr, eNot, eIf, eTup, eLst, eNeg, eSl, oNone, oSome, aNil, aCons, eCall, Res.bind, Res.of, gI, gLen, gInt, gList, gTuple, gType, tyName, gTyIs, gIsi, gIsN', gNotN', T.isNon, T.isFn, gIx_tup, gIx_lst, gIx_fro, VS.atI_nat, atI_0, atI_1, atI_2, VS.atI_last, gEq_int, gNe_int, gAdd, gSubI, gMul, gMod, gDiv, q_put_put, q_put_more, q_put_copy, q_put_tell, q_put_go, q_put_ask, q_put_stop, q_more_put, q_more_more, q_more_copy, q_more_tell, q_more_go, q_more_ask, q_more_stop, q_copy_put, q_copy_more, q_copy_copy, q_copy_tell, q_copy_go, q_copy_ask, q_copy_stop, q_tell_put, q_tell_more, q_tell_copy, q_tell_tell, q_tell_go, q_tell_ask, q_tell_stop, q_go_put, q_go_more, q_go_copy, q_go_tell, q_go_go, q_go_ask, q_go_stop, q_ask_put, q_ask_more, q_ask_copy, q_ask_tell, q_ask_go, q_ask_ask, q_ask_stop, q_stop_put, q_stop_more, q_stop_copy, q_stop_tell, q_stop_go, q_stop_ask, q_stop_stop, h1, e, e']
theorem rows_at {p : Pg} {i : Nat} {r : Rw} (h : p.rows[i]? = some r) : (p.rows.map Rw.t)[i]? = some r.t := by rw [List.getElem?_map, h]; rfl
theorem stepped_ok {p : Pg} {i : Nat} {l : List Nat} {r : Rw} (h : p.ok) (hi : p.rows[i]? = some r) (hl : Nums p l) : m_stepped [p.t, stT i l] = .ok (stepT p i l r) := by
  have hr := rows_at hi
  have hk := h.rows r (List.mem_of_getElem? hi)
  have hB := h.b3
  have hn := hl.1
  simp only [List.getElem?_map] at hr
  unfold m_stepped b_stepped Pg.t stT stepT
  cases r with
  | put b n =>
    have h1 := replaced_ok (l := l) (b := b) (n := n) (by have := hk.1; omega) (by omega)
    have h2 := written_put (M := p.M) (b := b) (n := n) (l := l)
    simp only [Rw.t] at hr
    simp [fDef, sSeq, sLift, sRet, sIf, sSet, sNew, sExp, sNx, sAsg, setT, setAll, sFrz, frz, sRaise, sApp, eB, eU, eC, eV, eW, eCh, eAnd, eOr, eNot, eIf, eTup, eLst, eNeg, eSl, oNone, oSome, aNil, aCons, eCall, Res.bind, Res.of, gI, gLen, gInt, gList, gTuple, gType, tyName, gTyIs, gIsi, gIsN', gNotN', T.isNon, T.isFn, gIx_tup, gIx_lst, gIx_fro, VS.atI_nat, atI_0, atI_1, atI_2, VS.atI_last, gEq_int, gNe_int, gAdd, gSubI, gMul, gMod, gDiv, q_put_put, q_put_more, q_put_copy, q_put_tell, q_put_go, q_put_ask, q_put_stop, q_more_put, q_more_more, q_more_copy, q_more_tell, q_more_go, q_more_ask, q_more_stop, q_copy_put, q_copy_more, q_copy_copy, q_copy_tell, q_copy_go, q_copy_ask, q_copy_stop, q_tell_put, q_tell_more, q_tell_copy, q_tell_tell, q_tell_go, q_tell_ask, q_tell_stop, q_go_put, q_go_more, q_go_copy, q_go_tell, q_go_go, q_go_ask, q_go_stop, q_ask_put, q_ask_more, q_ask_copy, q_ask_tell, q_ask_go, q_ask_ask, q_ask_stop, q_stop_put, q_stop_more, q_stop_copy, q_stop_tell, q_stop_go, q_stop_ask, q_stop_stop, hr, h1, h2, nx, tl, oS, oN, stT]
  | more b =>
    have hb : b < l.length := by have : b < p.B := hk; omega
    have h2 := written_more (M := p.M) (b := b) (l := l) hb
    have h1 := replaced_ok (l := l) (b := b) (n := if (l[b]?).getD 0 = p.M then 0 else (l[b]?).getD 0 + 1) hb (by omega)
    simp only [Rw.t] at hr
    simp only [nx, tl, oS, oN, stT]
    generalize (if (l[b]?).getD 0 = p.M then 0 else (l[b]?).getD 0 + 1) = x at h1 h2 ⊢
    simp [fDef, sSeq, sLift, sRet, sIf, sSet, sNew, sExp, sNx, sAsg, setT, setAll, sFrz, frz, sRaise, sApp, eB, eU, eC, eV, eW, eCh, eAnd, eOr, eNot, eIf, eTup, eLst, eNeg, eSl, oNone, oSome, aNil, aCons, eCall, Res.bind, Res.of, gI, gLen, gInt, gList, gTuple, gType, tyName, gTyIs, gIsi, gIsN', gNotN', T.isNon, T.isFn, gIx_tup, gIx_lst, gIx_fro, VS.atI_nat, atI_0, atI_1, atI_2, VS.atI_last, gEq_int, gNe_int, gAdd, gSubI, gMul, gMod, gDiv, q_put_put, q_put_more, q_put_copy, q_put_tell, q_put_go, q_put_ask, q_put_stop, q_more_put, q_more_more, q_more_copy, q_more_tell, q_more_go, q_more_ask, q_more_stop, q_copy_put, q_copy_more, q_copy_copy, q_copy_tell, q_copy_go, q_copy_ask, q_copy_stop, q_tell_put, q_tell_more, q_tell_copy, q_tell_tell, q_tell_go, q_tell_ask, q_tell_stop, q_go_put, q_go_more, q_go_copy, q_go_tell, q_go_go, q_go_ask, q_go_stop, q_ask_put, q_ask_more, q_ask_copy, q_ask_tell, q_ask_go, q_ask_ask, q_ask_stop, q_stop_put, q_stop_more, q_stop_copy, q_stop_tell, q_stop_go, q_stop_ask, q_stop_stop, hr, h1, h2]
  | copy b o =>
    have hb : b < l.length := by have := hk.1; omega
    have ho : o < l.length := by have := hk.2; omega
    have h2 := written_copy (M := p.M) (b := b) (l := l) ho
    have h1 := replaced_ok (l := l) (b := b) (n := (l[o]?).getD 0) hb (by omega)
    simp only [Rw.t] at hr
    simp [fDef, sSeq, sLift, sRet, sIf, sSet, sNew, sExp, sNx, sAsg, setT, setAll, sFrz, frz, sRaise, sApp, eB, eU, eC, eV, eW, eCh, eAnd, eOr, eNot, eIf, eTup, eLst, eNeg, eSl, oNone, oSome, aNil, aCons, eCall, Res.bind, Res.of, gI, gLen, gInt, gList, gTuple, gType, tyName, gTyIs, gIsi, gIsN', gNotN', T.isNon, T.isFn, gIx_tup, gIx_lst, gIx_fro, VS.atI_nat, atI_0, atI_1, atI_2, VS.atI_last, gEq_int, gNe_int, gAdd, gSubI, gMul, gMod, gDiv, q_put_put, q_put_more, q_put_copy, q_put_tell, q_put_go, q_put_ask, q_put_stop, q_more_put, q_more_more, q_more_copy, q_more_tell, q_more_go, q_more_ask, q_more_stop, q_copy_put, q_copy_more, q_copy_copy, q_copy_tell, q_copy_go, q_copy_ask, q_copy_stop, q_tell_put, q_tell_more, q_tell_copy, q_tell_tell, q_tell_go, q_tell_ask, q_tell_stop, q_go_put, q_go_more, q_go_copy, q_go_tell, q_go_go, q_go_ask, q_go_stop, q_ask_put, q_ask_more, q_ask_copy, q_ask_tell, q_ask_go, q_ask_ask, q_ask_stop, q_stop_put, q_stop_more, q_stop_copy, q_stop_tell, q_stop_go, q_stop_ask, q_stop_stop, hr, h1, h2, nx, tl, oS, oN, stT]
  | tell b =>
    have hb : b < l.length := by have : b < p.B := hk; omega
    have h1 := numsT_at hb
    simp only [Rw.t, List.getElem?_map] at hr h1
    unfold numsT
    simp [fDef, sSeq, sLift, sRet, sIf, sSet, sNew, sExp, sNx, sAsg, setT, setAll, sFrz, frz, sRaise, sApp, eB, eU, eC, eV, eW, eCh, eAnd, eOr, eNot, eIf, eTup, eLst, eNeg, eSl, oNone, oSome, aNil, aCons, eCall, Res.bind, Res.of, gI, gLen, gInt, gList, gTuple, gType, tyName, gTyIs, gIsi, gIsN', gNotN', T.isNon, T.isFn, gIx_tup, gIx_lst, gIx_fro, VS.atI_nat, atI_0, atI_1, atI_2, VS.atI_last, gEq_int, gNe_int, gAdd, gSubI, gMul, gMod, gDiv, q_put_put, q_put_more, q_put_copy, q_put_tell, q_put_go, q_put_ask, q_put_stop, q_more_put, q_more_more, q_more_copy, q_more_tell, q_more_go, q_more_ask, q_more_stop, q_copy_put, q_copy_more, q_copy_copy, q_copy_tell, q_copy_go, q_copy_ask, q_copy_stop, q_tell_put, q_tell_more, q_tell_copy, q_tell_tell, q_tell_go, q_tell_ask, q_tell_stop, q_go_put, q_go_more, q_go_copy, q_go_tell, q_go_go, q_go_ask, q_go_stop, q_ask_put, q_ask_more, q_ask_copy, q_ask_tell, q_ask_go, q_ask_ask, q_ask_stop, q_stop_put, q_stop_more, q_stop_copy, q_stop_tell, q_stop_go, q_stop_ask, q_stop_stop, hr, h1, nx, tl, oS, oN, stT, numsT]
  | go r =>
    simp only [Rw.t] at hr
    simp [fDef, sSeq, sLift, sRet, sIf, sSet, sNew, sExp, sNx, sAsg, setT, setAll, sFrz, frz, sRaise, sApp, eB, eU, eC, eV, eW, eCh, eAnd, eOr, eNot, eIf, eTup, eLst, eNeg, eSl, oNone, oSome, aNil, aCons, eCall, Res.bind, Res.of, gI, gLen, gInt, gList, gTuple, gType, tyName, gTyIs, gIsi, gIsN', gNotN', T.isNon, T.isFn, gIx_tup, gIx_lst, gIx_fro, VS.atI_nat, atI_0, atI_1, atI_2, VS.atI_last, gEq_int, gNe_int, gAdd, gSubI, gMul, gMod, gDiv, q_put_put, q_put_more, q_put_copy, q_put_tell, q_put_go, q_put_ask, q_put_stop, q_more_put, q_more_more, q_more_copy, q_more_tell, q_more_go, q_more_ask, q_more_stop, q_copy_put, q_copy_more, q_copy_copy, q_copy_tell, q_copy_go, q_copy_ask, q_copy_stop, q_tell_put, q_tell_more, q_tell_copy, q_tell_tell, q_tell_go, q_tell_ask, q_tell_stop, q_go_put, q_go_more, q_go_copy, q_go_tell, q_go_go, q_go_ask, q_go_stop, q_ask_put, q_ask_more, q_ask_copy, q_ask_tell, q_ask_go, q_ask_ask, q_ask_stop, q_stop_put, q_stop_more, q_stop_copy, q_stop_tell, q_stop_go, q_stop_ask, q_stop_stop, hr, nx, tl, oS, oN, stT]
  | ask b r =>
    have hb : b < l.length := by have := hk.1; omega
    have h1 := numsT_at hb
    simp only [Rw.t, List.getElem?_map] at hr h1
    unfold numsT
    by_cases e : (l[b]?).getD 0 = 0
    · simp [fDef, sSeq, sLift, sRet, sIf, sSet, sNew, sExp, sNx, sAsg, setT, setAll, sFrz, frz, sRaise, sApp, eB, eU, eC, eV, eW, eCh, eAnd, eOr, eNot, eIf, eTup, eLst, eNeg, eSl, oNone, oSome, aNil, aCons, eCall, Res.bind, Res.of, gI, gLen, gInt, gList, gTuple, gType, tyName, gTyIs, gIsi, gIsN', gNotN', T.isNon, T.isFn, gIx_tup, gIx_lst, gIx_fro, VS.atI_nat, atI_0, atI_1, atI_2, VS.atI_last, gEq_int, gNe_int, gAdd, gSubI, gMul, gMod, gDiv, q_put_put, q_put_more, q_put_copy, q_put_tell, q_put_go, q_put_ask, q_put_stop, q_more_put, q_more_more, q_more_copy, q_more_tell, q_more_go, q_more_ask, q_more_stop, q_copy_put, q_copy_more, q_copy_copy, q_copy_tell, q_copy_go, q_copy_ask, q_copy_stop, q_tell_put, q_tell_more, q_tell_copy, q_tell_tell, q_tell_go, q_tell_ask, q_tell_stop, q_go_put, q_go_more, q_go_copy, q_go_tell, q_go_go, q_go_ask, q_go_stop, q_ask_put, q_ask_more, q_ask_copy, q_ask_tell, q_ask_go, q_ask_ask, q_ask_stop, q_stop_put, q_stop_more, q_stop_copy, q_stop_tell, q_stop_go, q_stop_ask, q_stop_stop, hr, h1, nx, tl, oS, oN, stT, numsT, e]
    · simp [fDef, sSeq, sLift, sRet, sIf, sSet, sNew, sExp, sNx, sAsg, setT, setAll, sFrz, frz, sRaise, sApp, eB, eU, eC, eV, eW, eCh, eAnd, eOr, eNot, eIf, eTup, eLst, eNeg, eSl, oNone, oSome, aNil, aCons, eCall, Res.bind, Res.of, gI, gLen, gInt, gList, gTuple, gType, tyName, gTyIs, gIsi, gIsN', gNotN', T.isNon, T.isFn, gIx_tup, gIx_lst, gIx_fro, VS.atI_nat, atI_0, atI_1, atI_2, VS.atI_last, gEq_int, gNe_int, gAdd, gSubI, gMul, gMod, gDiv, q_put_put, q_put_more, q_put_copy, q_put_tell, q_put_go, q_put_ask, q_put_stop, q_more_put, q_more_more, q_more_copy, q_more_tell, q_more_go, q_more_ask, q_more_stop, q_copy_put, q_copy_more, q_copy_copy, q_copy_tell, q_copy_go, q_copy_ask, q_copy_stop, q_tell_put, q_tell_more, q_tell_copy, q_tell_tell, q_tell_go, q_tell_ask, q_tell_stop, q_go_put, q_go_more, q_go_copy, q_go_tell, q_go_go, q_go_ask, q_go_stop, q_ask_put, q_ask_more, q_ask_copy, q_ask_tell, q_ask_go, q_ask_ask, q_ask_stop, q_stop_put, q_stop_more, q_stop_copy, q_stop_tell, q_stop_go, q_stop_ask, q_stop_stop, hr, h1, nx, tl, oS, oN, stT, numsT, e]
  | stop =>
    simp only [Rw.t] at hr
    simp [fDef, sSeq, sLift, sRet, sIf, sSet, sNew, sExp, sNx, sAsg, setT, setAll, sFrz, frz, sRaise, sApp, eB, eU, eC, eV, eW, eCh, eAnd, eOr, eNot, eIf, eTup, eLst, eNeg, eSl, oNone, oSome, aNil, aCons, eCall, Res.bind, Res.of, gI, gLen, gInt, gList, gTuple, gType, tyName, gTyIs, gIsi, gIsN', gNotN', T.isNon, T.isFn, gIx_tup, gIx_lst, gIx_fro, VS.atI_nat, atI_0, atI_1, atI_2, VS.atI_last, gEq_int, gNe_int, gAdd, gSubI, gMul, gMod, gDiv, q_put_put, q_put_more, q_put_copy, q_put_tell, q_put_go, q_put_ask, q_put_stop, q_more_put, q_more_more, q_more_copy, q_more_tell, q_more_go, q_more_ask, q_more_stop, q_copy_put, q_copy_more, q_copy_copy, q_copy_tell, q_copy_go, q_copy_ask, q_copy_stop, q_tell_put, q_tell_more, q_tell_copy, q_tell_tell, q_tell_go, q_tell_ask, q_tell_stop, q_go_put, q_go_more, q_go_copy, q_go_tell, q_go_go, q_go_ask, q_go_stop, q_ask_put, q_ask_more, q_ask_copy, q_ask_tell, q_ask_go, q_ask_ask, q_ask_stop, q_stop_put, q_stop_more, q_stop_copy, q_stop_tell, q_stop_go, q_stop_ask, q_stop_stop, hr, nx, tl, oS, oN, stT]
theorem put_ok {l : List Nat} {b n : Nat} (h : b < l.length) : m_law_put [numsT l, .int (b : Nat), .int (n : Nat)] = .ok (numsT (l.set b n)) := by
  have h1 : ixN l.length (b : Int) = some b := by rw [VS.ixN_nat, if_pos h]
  unfold m_law_put b_law_put numsT
  simp [fDef, sSeq, sLift, sRet, sIf, sSet, sNew, sExp, sNx, sAsg, setT, setAll, sFrz, frz, sRaise, sApp, eB, eU, eC, eV, eW, eCh, eAnd, eOr, eNot, eIf, eTup, eLst, eNeg, eSl, oNone, oSome, aNil, aCons, eCall, Res.bind, Res.of, gI, gLen, gInt, gList, gTuple, gType, tyName, gTyIs, gIsi, gIsN', gNotN', T.isNon, T.isFn, gIx_tup, gIx_lst, gIx_fro, VS.atI_nat, atI_0, atI_1, atI_2, VS.atI_last, gEq_int, gNe_int, gAdd, gSubI, gMul, gMod, gDiv, sPut, h1, List.map_set]
theorem lstep_ok {p : Pg} {i : Nat} {l : List Nat} {r : Rw} (h : p.ok) (hi : p.rows[i]? = some r) (hl : Nums p l) : m_law_step [p.t, stT i l] = .ok (stepT p i l r) := by
  have hr := rows_at hi
  have hk := h.rows r (List.mem_of_getElem? hi)
  have hB := h.b3
  have hn := hl.1
  simp only [List.getElem?_map] at hr
  unfold m_law_step b_law_step Pg.t stT stepT
  cases r with
  | put b n =>
    have h1 := put_ok (l := l) (b := b) (n := n) (by have := hk.1; omega)
    simp only [Rw.t] at hr
    generalize m_law_put = F at *
    simp [fDef, sSeq, sLift, sRet, sIf, sSet, sNew, sExp, sNx, sAsg, setT, setAll, sFrz, frz, sRaise, sApp, eB, eU, eC, eV, eW, eCh, eAnd, eOr, eNot, eIf, eTup, eLst, eNeg, eSl, oNone, oSome, aNil, aCons, eCall, Res.bind, Res.of, gI, gLen, gInt, gList, gTuple, gType, tyName, gTyIs, gIsi, gIsN', gNotN', T.isNon, T.isFn, gIx_tup, gIx_lst, gIx_fro, VS.atI_nat, atI_0, atI_1, atI_2, VS.atI_last, gEq_int, gNe_int, gAdd, gSubI, gMul, gMod, gDiv, q_put_put, q_put_more, q_put_copy, q_put_tell, q_put_go, q_put_ask, q_put_stop, q_more_put, q_more_more, q_more_copy, q_more_tell, q_more_go, q_more_ask, q_more_stop, q_copy_put, q_copy_more, q_copy_copy, q_copy_tell, q_copy_go, q_copy_ask, q_copy_stop, q_tell_put, q_tell_more, q_tell_copy, q_tell_tell, q_tell_go, q_tell_ask, q_tell_stop, q_go_put, q_go_more, q_go_copy, q_go_tell, q_go_go, q_go_ask, q_go_stop, q_ask_put, q_ask_more, q_ask_copy, q_ask_tell, q_ask_go, q_ask_ask, q_ask_stop, q_stop_put, q_stop_more, q_stop_copy, q_stop_tell, q_stop_go, q_stop_ask, q_stop_stop, hr, h1, nx, tl, oS, oN, stT]
  | more b =>
    have hb : b < l.length := by have : b < p.B := hk; omega
    have h2 := numsT_at hb
    have hM : (l[b]?).getD 0 ≤ p.M := by
      rw [List.getElem?_eq_getElem hb]
      exact hl.2 _ (List.getElem_mem hb)
    simp only [Rw.t, List.getElem?_map] at hr h2
    simp only [nx, tl, oS, oN, stT]
    by_cases e : (l[b]?).getD 0 = p.M
    · have h1 := put_ok (l := l) (b := b) (n := 0) hb
      have e2 : (p.M : Int) < (p.M : Int) + 1 := by omega
      have h1 : m_law_put [numsT l, .int (b : Nat), .int 0] = .ok (numsT (l.set b 0)) := h1
      rw [if_pos e]
      generalize m_law_put = F at *
      unfold numsT at h1 ⊢
      simp [fDef, sSeq, sLift, sRet, sIf, sSet, sNew, sExp, sNx, sAsg, setT, setAll, sFrz, frz, sRaise, sApp, eB, eU, eC, eV, eW, eCh, eAnd, eOr, eNot, eIf, eTup, eLst, eNeg, eSl, oNone, oSome, aNil, aCons, eCall, Res.bind, Res.of, gI, gLen, gInt, gList, gTuple, gType, tyName, gTyIs, gIsi, gIsN', gNotN', T.isNon, T.isFn, gIx_tup, gIx_lst, gIx_fro, VS.atI_nat, atI_0, atI_1, atI_2, VS.atI_last, gEq_int, gNe_int, gAdd, gSubI, gMul, gMod, gDiv, q_put_put, q_put_more, q_put_copy, q_put_tell, q_put_go, q_put_ask, q_put_stop, q_more_put, q_more_more, q_more_copy, q_more_tell, q_more_go, q_more_ask, q_more_stop, q_copy_put, q_copy_more, q_copy_copy, q_copy_tell, q_copy_go, q_copy_ask, q_copy_stop, q_tell_put, q_tell_more, q_tell_copy, q_tell_tell, q_tell_go, q_tell_ask, q_tell_stop, q_go_put, q_go_more, q_go_copy, q_go_tell, q_go_go, q_go_ask, q_go_stop, q_ask_put, q_ask_more, q_ask_copy, q_ask_tell, q_ask_go, q_ask_ask, q_ask_stop, q_stop_put, q_stop_more, q_stop_copy, q_stop_tell, q_stop_go, q_stop_ask, q_stop_stop, hr, h1, h2, e, e2]
    · have h1 := put_ok (l := l) (b := b) (n := (l[b]?).getD 0 + 1) hb
      have e2 : ¬ (p.M : Int) < (((l[b]?).getD 0 : Nat) : Int) + 1 := by omega
      have e3 : ¬ (p.M : Int) ≤ (((l[b]?).getD 0 : Nat) : Int) := by omega
      have e4 : ¬ p.M ≤ (l[b]?).getD 0 := by omega
      have h1 : m_law_put [numsT l, .int (b : Nat), .int ((((l[b]?).getD 0 : Nat) : Int) + 1)] = .ok (numsT (l.set b ((l[b]?).getD 0 + 1))) := h1
      rw [if_neg e]
      generalize m_law_put = F at *
      unfold numsT at h1 ⊢
      simp [fDef, sSeq, sLift, sRet, sIf, sSet, sNew, sExp, sNx, sAsg, setT, setAll, sFrz, frz, sRaise, sApp, eB, eU, eC, eV, eW, eCh, eAnd, eOr, eNot, eIf, eTup, eLst, eNeg, eSl, oNone, oSome, aNil, aCons, eCall, Res.bind, Res.of, gI, gLen, gInt, gList, gTuple, gType, tyName, gTyIs, gIsi, gIsN', gNotN', T.isNon, T.isFn, gIx_tup, gIx_lst, gIx_fro, VS.atI_nat, atI_0, atI_1, atI_2, VS.atI_last, gEq_int, gNe_int, gAdd, gSubI, gMul, gMod, gDiv, q_put_put, q_put_more, q_put_copy, q_put_tell, q_put_go, q_put_ask, q_put_stop, q_more_put, q_more_more, q_more_copy, q_more_tell, q_more_go, q_more_ask, q_more_stop, q_copy_put, q_copy_more, q_copy_copy, q_copy_tell, q_copy_go, q_copy_ask, q_copy_stop, q_tell_put, q_tell_more, q_tell_copy, q_tell_tell, q_tell_go, q_tell_ask, q_tell_stop, q_go_put, q_go_more, q_go_copy, q_go_tell, q_go_go, q_go_ask, q_go_stop, q_ask_put, q_ask_more, q_ask_copy, q_ask_tell, q_ask_go, q_ask_ask, q_ask_stop, q_stop_put, q_stop_more, q_stop_copy, q_stop_tell, q_stop_go, q_stop_ask, q_stop_stop, hr, h1, h2, e, e2, e3, e4, Int.lt_add_one_iff]
  | copy b o =>
    have hb : b < l.length := by have := hk.1; omega
    have ho : o < l.length := by have := hk.2; omega
    have h2 := numsT_at ho
    have h1 := put_ok (l := l) (b := b) (n := (l[o]?).getD 0) hb
    simp only [Rw.t, List.getElem?_map] at hr h2
    generalize m_law_put = F at *
    unfold numsT at h1 ⊢
    simp [fDef, sSeq, sLift, sRet, sIf, sSet, sNew, sExp, sNx, sAsg, setT, setAll, sFrz, frz, sRaise, sApp, eB, eU, eC, eV, eW, eCh, eAnd, eOr, eNot, eIf, eTup, eLst, eNeg, eSl, oNone, oSome, aNil, aCons, eCall, Res.bind, Res.of, gI, gLen, gInt, gList, gTuple, gType, tyName, gTyIs, gIsi, gIsN', gNotN', T.isNon, T.isFn, gIx_tup, gIx_lst, gIx_fro, VS.atI_nat, atI_0, atI_1, atI_2, VS.atI_last, gEq_int, gNe_int, gAdd, gSubI, gMul, gMod, gDiv, q_put_put, q_put_more, q_put_copy, q_put_tell, q_put_go, q_put_ask, q_put_stop, q_more_put, q_more_more, q_more_copy, q_more_tell, q_more_go, q_more_ask, q_more_stop, q_copy_put, q_copy_more, q_copy_copy, q_copy_tell, q_copy_go, q_copy_ask, q_copy_stop, q_tell_put, q_tell_more, q_tell_copy, q_tell_tell, q_tell_go, q_tell_ask, q_tell_stop, q_go_put, q_go_more, q_go_copy, q_go_tell, q_go_go, q_go_ask, q_go_stop, q_ask_put, q_ask_more, q_ask_copy, q_ask_tell, q_ask_go, q_ask_ask, q_ask_stop, q_stop_put, q_stop_more, q_stop_copy, q_stop_tell, q_stop_go, q_stop_ask, q_stop_stop, hr, h1, h2, nx, tl, oS, oN, stT, numsT]
  | tell b =>
    have hb : b < l.length := by have : b < p.B := hk; omega
    have h1 := numsT_at hb
    simp only [Rw.t, List.getElem?_map] at hr h1
    unfold numsT
    simp [fDef, sSeq, sLift, sRet, sIf, sSet, sNew, sExp, sNx, sAsg, setT, setAll, sFrz, frz, sRaise, sApp, eB, eU, eC, eV, eW, eCh, eAnd, eOr, eNot, eIf, eTup, eLst, eNeg, eSl, oNone, oSome, aNil, aCons, eCall, Res.bind, Res.of, gI, gLen, gInt, gList, gTuple, gType, tyName, gTyIs, gIsi, gIsN', gNotN', T.isNon, T.isFn, gIx_tup, gIx_lst, gIx_fro, VS.atI_nat, atI_0, atI_1, atI_2, VS.atI_last, gEq_int, gNe_int, gAdd, gSubI, gMul, gMod, gDiv, q_put_put, q_put_more, q_put_copy, q_put_tell, q_put_go, q_put_ask, q_put_stop, q_more_put, q_more_more, q_more_copy, q_more_tell, q_more_go, q_more_ask, q_more_stop, q_copy_put, q_copy_more, q_copy_copy, q_copy_tell, q_copy_go, q_copy_ask, q_copy_stop, q_tell_put, q_tell_more, q_tell_copy, q_tell_tell, q_tell_go, q_tell_ask, q_tell_stop, q_go_put, q_go_more, q_go_copy, q_go_tell, q_go_go, q_go_ask, q_go_stop, q_ask_put, q_ask_more, q_ask_copy, q_ask_tell, q_ask_go, q_ask_ask, q_ask_stop, q_stop_put, q_stop_more, q_stop_copy, q_stop_tell, q_stop_go, q_stop_ask, q_stop_stop, hr, h1, nx, tl, oS, oN, stT, numsT]
  | go r =>
    simp only [Rw.t] at hr
    simp [fDef, sSeq, sLift, sRet, sIf, sSet, sNew, sExp, sNx, sAsg, setT, setAll, sFrz, frz, sRaise, sApp, eB, eU, eC, eV, eW, eCh, eAnd, eOr, eNot, eIf, eTup, eLst, eNeg, eSl, oNone, oSome, aNil, aCons, eCall, Res.bind, Res.of, gI, gLen, gInt, gList, gTuple, gType, tyName, gTyIs, gIsi, gIsN', gNotN', T.isNon, T.isFn, gIx_tup, gIx_lst, gIx_fro, VS.atI_nat, atI_0, atI_1, atI_2, VS.atI_last, gEq_int, gNe_int, gAdd, gSubI, gMul, gMod, gDiv, q_put_put, q_put_more, q_put_copy, q_put_tell, q_put_go, q_put_ask, q_put_stop, q_more_put, q_more_more, q_more_copy, q_more_tell, q_more_go, q_more_ask, q_more_stop, q_copy_put, q_copy_more, q_copy_copy, q_copy_tell, q_copy_go, q_copy_ask, q_copy_stop, q_tell_put, q_tell_more, q_tell_copy, q_tell_tell, q_tell_go, q_tell_ask, q_tell_stop, q_go_put, q_go_more, q_go_copy, q_go_tell, q_go_go, q_go_ask, q_go_stop, q_ask_put, q_ask_more, q_ask_copy, q_ask_tell, q_ask_go, q_ask_ask, q_ask_stop, q_stop_put, q_stop_more, q_stop_copy, q_stop_tell, q_stop_go, q_stop_ask, q_stop_stop, hr, nx, tl, oS, oN, stT]
  | ask b r =>
    have hb : b < l.length := by have := hk.1; omega
    have h1 := numsT_at hb
    simp only [Rw.t, List.getElem?_map] at hr h1
    unfold numsT
    by_cases e : (l[b]?).getD 0 = 0
    · simp [fDef, sSeq, sLift, sRet, sIf, sSet, sNew, sExp, sNx, sAsg, setT, setAll, sFrz, frz, sRaise, sApp, eB, eU, eC, eV, eW, eCh, eAnd, eOr, eNot, eIf, eTup, eLst, eNeg, eSl, oNone, oSome, aNil, aCons, eCall, Res.bind, Res.of, gI, gLen, gInt, gList, gTuple, gType, tyName, gTyIs, gIsi, gIsN', gNotN', T.isNon, T.isFn, gIx_tup, gIx_lst, gIx_fro, VS.atI_nat, atI_0, atI_1, atI_2, VS.atI_last, gEq_int, gNe_int, gAdd, gSubI, gMul, gMod, gDiv, q_put_put, q_put_more, q_put_copy, q_put_tell, q_put_go, q_put_ask, q_put_stop, q_more_put, q_more_more, q_more_copy, q_more_tell, q_more_go, q_more_ask, q_more_stop, q_copy_put, q_copy_more, q_copy_copy, q_copy_tell, q_copy_go, q_copy_ask, q_copy_stop, q_tell_put, q_tell_more, q_tell_copy, q_tell_tell, q_tell_go, q_tell_ask, q_tell_stop, q_go_put, q_go_more, q_go_copy, q_go_tell, q_go_go, q_go_ask, q_go_stop, q_ask_put, q_ask_more, q_ask_copy, q_ask_tell, q_ask_go, q_ask_ask, q_ask_stop, q_stop_put, q_stop_more, q_stop_copy, q_stop_tell, q_stop_go, q_stop_ask, q_stop_stop, hr, h1, nx, tl, oS, oN, stT, numsT, e]
    · simp [fDef, sSeq, sLift, sRet, sIf, sSet, sNew, sExp, sNx, sAsg, setT, setAll, sFrz, frz, sRaise, sApp, eB, eU, eC, eV, eW, eCh, eAnd, eOr, eNot, eIf, eTup, eLst, eNeg, eSl, oNone, oSome, aNil, aCons, eCall, Res.bind, Res.of, gI, gLen, gInt, gList, gTuple, gType, tyName, gTyIs, gIsi, gIsN', gNotN', T.isNon, T.isFn, gIx_tup, gIx_lst, gIx_fro, VS.atI_nat, atI_0, atI_1, atI_2, VS.atI_last, gEq_int, gNe_int, gAdd, gSubI, gMul, gMod, gDiv, q_put_put, q_put_more, q_put_copy, q_put_tell, q_put_go, q_put_ask, q_put_stop, q_more_put, q_more_more, q_more_copy, q_more_tell, q_more_go, q_more_ask, q_more_stop, q_copy_put, q_copy_more, q_copy_copy, q_copy_tell, q_copy_go, q_copy_ask, q_copy_stop, q_tell_put, q_tell_more, q_tell_copy, q_tell_tell, q_tell_go, q_tell_ask, q_tell_stop, q_go_put, q_go_more, q_go_copy, q_go_tell, q_go_go, q_go_ask, q_go_stop, q_ask_put, q_ask_more, q_ask_copy, q_ask_tell, q_ask_go, q_ask_ask, q_ask_stop, q_stop_put, q_stop_more, q_stop_copy, q_stop_tell, q_stop_go, q_stop_ask, q_stop_stop, hr, h1, nx, tl, oS, oN, stT, numsT, e]
  | stop =>
    simp only [Rw.t] at hr
    simp [fDef, sSeq, sLift, sRet, sIf, sSet, sNew, sExp, sNx, sAsg, setT, setAll, sFrz, frz, sRaise, sApp, eB, eU, eC, eV, eW, eCh, eAnd, eOr, eNot, eIf, eTup, eLst, eNeg, eSl, oNone, oSome, aNil, aCons, eCall, Res.bind, Res.of, gI, gLen, gInt, gList, gTuple, gType, tyName, gTyIs, gIsi, gIsN', gNotN', T.isNon, T.isFn, gIx_tup, gIx_lst, gIx_fro, VS.atI_nat, atI_0, atI_1, atI_2, VS.atI_last, gEq_int, gNe_int, gAdd, gSubI, gMul, gMod, gDiv, q_put_put, q_put_more, q_put_copy, q_put_tell, q_put_go, q_put_ask, q_put_stop, q_more_put, q_more_more, q_more_copy, q_more_tell, q_more_go, q_more_ask, q_more_stop, q_copy_put, q_copy_more, q_copy_copy, q_copy_tell, q_copy_go, q_copy_ask, q_copy_stop, q_tell_put, q_tell_more, q_tell_copy, q_tell_tell, q_tell_go, q_tell_ask, q_tell_stop, q_go_put, q_go_more, q_go_copy, q_go_tell, q_go_go, q_go_ask, q_go_stop, q_ask_put, q_ask_more, q_ask_copy, q_ask_tell, q_ask_go, q_ask_ask, q_ask_stop, q_stop_put, q_stop_more, q_stop_copy, q_stop_tell, q_stop_go, q_stop_ask, q_stop_stop, hr, nx, tl, oS, oN, stT]

end K08

namespace K08
open PySem PySem.Spec PyProof.Rows L2 Evl VS
/-! ### turned -/
def Rl.w (l : List Nat) : Rl → Option Nat
  | .is v => v
  | .by_ b ns => (ns[(l[b]?).getD 0]?).getD none
def turnN (l : List Nat) : List Rl → Option (List Nat)
  | [] => some []
  | r :: rs => match r.w l, turnN l rs with
    | some n, some ns => some (n :: ns)
    | _, _ => none
def oL : Option (List Nat) → T
  | none => .non
  | some l => numsT l
theorem by_at {p q : Pg} {l : List Nat} {b : Nat} {ns : List (Option Nat)} (h : (Rl.by_ b ns).ok p q) (hl : Nums p l) : b < l.length ∧ (ns.map oN)[(l[b]?).getD 0]? = some (oN ((ns[(l[b]?).getD 0]?).getD none)) := by
  obtain ⟨h1, h2, h3⟩ := h
  have hb : b < l.length := by have := hl.1; omega
  refine ⟨hb, ?_⟩
  have hn : (l[b]?).getD 0 < ns.length := by
    rw [List.getElem?_eq_getElem hb]
    have := hl.2 _ (List.getElem_mem hb)
    show l[b] < ns.length
    omega
  rw [List.getElem?_map, List.getElem?_eq_getElem hn]
  rfl
theorem eqT_oN (n : Option Nat) : eqT (oN n) .non = decide (n = none) := by cases n <;> simp [oN, VS.eqT]
theorem flat_oN (n : Option Nat) : (oN n).flat = true := by cases n <;> rfl
theorem turnN_none (l : List Nat) : ∀ rs : List Rl, (rs.map fun r => oN (r.w l)).any (fun z => eqT z .non) = true → turnN l rs = none
  | [], h => by simp at h
  | r :: rs, h => by
    simp only [List.map_cons, List.any_cons, eqT_oN, Bool.or_eq_true, decide_eq_true_eq] at h
    unfold turnN
    rcases h with h | h
    · rw [h]
    · rw [turnN_none l rs (by simpa [eqT_oN] using h)]
      cases r.w l <;> rfl
theorem turnN_some (l : List Nat) : ∀ rs : List Rl, (rs.map fun r => oN (r.w l)).any (fun z => eqT z .non) = false → ∃ ns : List Nat, turnN l rs = some ns ∧ rs.map (fun r => oN (r.w l)) = ns.map fun n => .int (n : Nat)
  | [], h => ⟨[], rfl, rfl⟩
  | r :: rs, h => by
    simp only [List.map_cons, List.any_cons, eqT_oN, Bool.or_eq_false_iff, decide_eq_false_iff_not] at h
    obtain ⟨ns, h1, h2⟩ := turnN_some l rs (by simpa [eqT_oN] using h.2)
    cases e : r.w l with
    | none => exact absurd e h.1
    | some n =>
      refine ⟨n :: ns, ?_, ?_⟩
      · unfold turnN
        rw [e, h1]
      · rw [List.map_cons, List.map_cons, h2, e]
        rfl
theorem worth_ok {p q : Pg} {l : List Nat} {r : Rl} (h : r.ok p q) (hl : Nums p l) : m_worth [r.t, numsT l] = .ok (oN (r.w l)) := by
  unfold m_worth b_worth
  cases r with
  | is v => simp [fDef, sSeq, sLift, sRet, sIf, sSet, sNew, sExp, sNx, sAsg, setT, setAll, sFrz, frz, sRaise, sApp, eB, eU, eC, eV, eW, eCh, eAnd, eOr, eNot, eIf, eTup, eLst, eNeg, eSl, oNone, oSome, aNil, aCons, eCall, Res.bind, Res.of, gI, gLen, gInt, gList, gTuple, gType, tyName, gTyIs, gIsi, gIsN', gNotN', T.isNon, T.isFn, gIx_tup, gIx_lst, gIx_fro, VS.atI_nat, atI_0, atI_1, atI_2, VS.atI_last, gEq_int, gNe_int, gAdd, gSubI, gMul, gMod, gDiv, e_is_is, Rl.t, Rl.w]
  | by_ b ns =>
    obtain ⟨hb, h2⟩ := by_at h hl
    have h3 := numsT_at hb
    simp only [List.getElem?_map] at h2 h3
    unfold numsT
    simp [fDef, sSeq, sLift, sRet, sIf, sSet, sNew, sExp, sNx, sAsg, setT, setAll, sFrz, frz, sRaise, sApp, eB, eU, eC, eV, eW, eCh, eAnd, eOr, eNot, eIf, eTup, eLst, eNeg, eSl, oNone, oSome, aNil, aCons, eCall, Res.bind, Res.of, gI, gLen, gInt, gList, gTuple, gType, tyName, gTyIs, gIsi, gIsN', gNotN', T.isNon, T.isFn, gIx_tup, gIx_lst, gIx_fro, VS.atI_nat, atI_0, atI_1, atI_2, VS.atI_last, gEq_int, gNe_int, gAdd, gSubI, gMul, gMod, gDiv, e_by_is, Rl.t, Rl.w, h3, h2]
theorem turned_ok {p q : Pg} {l : List Nat} {rs : List Rl} (h : Rls p q rs) (hq : q.ok) (hl : Nums p l) : m_turned [rulesT rs, numsT l] = .ok (oL (turnN l rs)) := by
  have hlen : (rs.map Rl.t).length ≤ 1000 := by rw [List.length_map, h.len]; have := hq.b3; omega
  have c1 : compF (.nm 3) (eC (.bl true)) (eCall 2 m_worth (aCons (eV 3) (aCons (eV 1) aNil))) (rs.map Rl.t) [.sh (rulesT rs), .sh (numsT l), .un, .un] = .ok (rs.map fun r => oN (r.w l)) := by
    have hw : ∀ r ∈ rs, m_worth [r.t, numsT l] = .ok (oN (r.w l)) := fun r m => worth_ok (h.ok r m) hl
    generalize m_worth = F at hw
    have e : ∀ t ∈ rs.map Rl.t, ∃ r ∈ rs, t = r.t := fun t m => by
      obtain ⟨r, h1, h2⟩ := List.mem_map.mp m
      exact ⟨r, h1, h2.symm⟩
    clear h hlen e
    generalize Sl.sh (rulesT rs) = s0
    induction rs with
    | nil => rfl
    | cons r rs ih =>
      rw [List.map_cons, List.map_cons]
      unfold compF
      simp only [setT, List.set_cons_succ, List.set_cons_zero, eC]
      simp only [eCall, aCons, aNil, eV, List.getElem?_cons_succ, List.getElem?_cons_zero, Res.bind, List.length_cons, List.length_nil, if_true, hw r List.mem_cons_self]
      rw [ih fun r m => hw r (List.mem_cons_of_mem _ m)]
  have c2 : (eComp (iIt (eV 0)) (.nm 3) [3] (eC (.bl true)) (eCall 2 m_worth (aCons (eV 3) (aCons (eV 1) aNil)))) [.sh (rulesT rs), .sh (numsT l), .un, .un] = .ok (.lst (rs.map fun r => oN (r.w l))) := by
    unfold eComp
    have w : wipeE [.sh (rulesT rs), .sh (numsT l), .un, .un] [3] = [.sh (rulesT rs), .sh (numsT l), .un, .un] := rfl
    have i1 : iIt (eV 0) [.sh (rulesT rs), .sh (numsT l), .un, .un] = .ok (rs.map Rl.t) := rfl
    rw [w, i1]
    simp only [Res.bind]
    rw [c1]
    simp only [Res.bind]
    rw [if_pos (by rw [List.length_map]; rw [List.length_map] at hlen; exact le_big9 hlen)]
  have hf : (rs.map fun r => oN (r.w l)).all T.flat = true := by simp [flat_oN]
  refine fDef_rt ?_
  show b_turned [.sh (rulesT rs), .sh (numsT l), .un, .un] = _
  unfold b_turned
  have a1 : (sNew 2 (eComp (iIt (eV 0)) (.nm 3) [3] (eC (.bl true)) (eCall 2 m_worth (aCons (eV 3) (aCons (eV 1) aNil))))) [.sh (rulesT rs), .sh (numsT l), .un, .un] = .nx [.sh (rulesT rs), .sh (numsT l), .ow (.lst (rs.map fun r => oN (r.w l))), .un] := by
    unfold sNew sLift
    rw [c2]
    rfl
  rw [sSeq_nx a1]
  generalize hL : (rs.map fun r => oN (r.w l)) = L at *
  have g1 : gIn false .non (.lst L) = some (.bl (L.any fun z => eqT z .non)) := by
    unfold gIn
    simp [T.flat, hf]
  cases e : L.any fun z => eqT z .non with
  | true =>
    rw [e] at g1
    rw [← hL] at e
    rw [turnN_none l rs e]
    refine sSeq_rt ?_
    simp [sIf, sLift, eB, eW, eC, Res.bind, Res.of, g1, sRet, oL]
  | false =>
    rw [e] at g1
    rw [← hL] at e
    obtain ⟨ns, h1, h2⟩ := turnN_some l rs e
    rw [hL] at h2
    rw [h1, sSeq_nx (ρ' := [.sh (rulesT rs), .sh (numsT l), .ow (.lst L), .un]) (by simp [sIf, sLift, eB, eW, eC, Res.bind, Res.of, g1, sNx]), h2]
    rfl
def bodyLt : FS := (sSeq (sSet 4 (eB gIx (eW 3) (eC (.int 1))))
  (sSeq (sIf (eB gEq (eB gIx (eW 3) (eC (.int 0))) (eC (.str "by"))) (sSet 4 (eB gIx (eB gIx (eW 3) (eC (.int 2))) (eB gIx (eW 1) (eB gIx (eW 3) (eC (.int 1)))))) sNx)
  (sSeq (sIf (eB gIsN' (eW 4) (eC .non)) (sRet (eC .non)) sNx)
  (sApp 2 (eV 4)))))
theorem bodyLt_ok {p q : Pg} {l ns : List Nat} {r : Rl} {s0 y : Sl} (h : r.ok p q) (hl : Nums p l) (hn : ns.length ≤ 1000) :
    (∀ n, r.w l = some n → bodyLt [s0, .sh (numsT l), .ow (.lst (ns.map fun n => .int (n : Nat))), .sh r.t, y] = .nx [s0, .sh (numsT l), .ow (.lst ((ns ++ [n]).map fun n => .int (n : Nat))), .sh r.t, .sh (.int (n : Nat))]) ∧
    (r.w l = none → bodyLt [s0, .sh (numsT l), .ow (.lst (ns.map fun n => .int (n : Nat))), .sh r.t, y] = .rt .non) := by
  have hw : ∀ z, ∃ z', (sSet 4 (eB gIx (eW 3) (eC (.int 1)))) [s0, .sh (numsT l), z, .sh r.t, y] = .nx [s0, .sh (numsT l), z, .sh r.t, z'] ∧
      (sIf (eB gEq (eB gIx (eW 3) (eC (.int 0))) (eC (.str "by"))) (sSet 4 (eB gIx (eB gIx (eW 3) (eC (.int 2))) (eB gIx (eW 1) (eB gIx (eW 3) (eC (.int 1)))))) sNx) [s0, .sh (numsT l), z, .sh r.t, z'] = .nx [s0, .sh (numsT l), z, .sh r.t, .sh (oN (r.w l))] := by
    intro z
    cases r with
    | is v => exact ⟨.sh (oN v), by simp [sSet, sLift, eB, eW, eC, Res.bind, Res.of, gIx_tup, atI_1, Rl.t], by simp [sIf, sLift, eB, eW, eC, Res.bind, Res.of, gIx_tup, atI_0, Rl.t, e_is_by, sNx, Rl.w]⟩
    | by_ b ns =>
      obtain ⟨hb, h2⟩ := by_at h hl
      have h3 := numsT_at hb
      simp only [List.getElem?_map] at h2 h3
      unfold numsT
      exact ⟨.sh (.int (b : Nat)), by simp [sSet, sLift, eB, eW, eC, Res.bind, Res.of, gIx_tup, atI_1, Rl.t], by simp [sIf, sSet, sLift, eB, eW, eC, Res.bind, Res.of, gIx_tup, atI_0, atI_1, atI_2, VS.atI_nat, Rl.t, e_by_by, sNx, Rl.w, h3, h2]⟩
  obtain ⟨z', h1, h2⟩ := hw (.ow (.lst (ns.map fun n => .int (n : Nat))))
  refine ⟨fun n e => ?_, fun e => ?_⟩
  · unfold bodyLt
    rw [sSeq_nx h1, sSeq_nx h2, e]
    have a3 : (sIf (eB gIsN' (eW 4) (eC .non)) (sRet (eC .non)) sNx) [s0, .sh (numsT l), .ow (.lst (ns.map fun n => .int (n : Nat))), .sh r.t, .sh (oN (some n))] = .nx [s0, .sh (numsT l), .ow (.lst (ns.map fun n => .int (n : Nat))), .sh r.t, .sh (.int (n : Nat))] := by
      simp [sIf, sLift, eB, eW, eC, Res.bind, Res.of, gIsN', T.isNon, T.isFn, oN, sNx]
    rw [sSeq_nx a3, sApp_ok (t := .int (n : Nat)) rfl rfl (by rw [List.length_map]; exact lt_big hn), List.map_append]
    rfl
  · unfold bodyLt
    rw [sSeq_nx h1, sSeq_nx h2, e]
    exact sSeq_rt rfl
theorem loopLt {p q : Pg} {l : List Nat} {s0 : Sl} (hl : Nums p l) : ∀ (rs : List Rl) (ns : List Nat) (x y : Sl), (∀ r ∈ rs, r.ok p q) → ns.length + rs.length ≤ 1000 →
    (∀ ms, turnN l rs = some ms → ∃ x' y', loopF (.nm 3) bodyLt (rs.map Rl.t) [s0, .sh (numsT l), .ow (.lst (ns.map fun n => .int (n : Nat))), x, y] = .nx [s0, .sh (numsT l), .ow (.lst ((ns ++ ms).map fun n => .int (n : Nat))), x', y']) ∧
    (turnN l rs = none → loopF (.nm 3) bodyLt (rs.map Rl.t) [s0, .sh (numsT l), .ow (.lst (ns.map fun n => .int (n : Nat))), x, y] = .rt .non)
  | [], ns, x, y, _, _ => ⟨fun ms e => by cases e; rw [List.append_nil]; exact ⟨x, y, rfl⟩, fun e => by cases e⟩
  | r :: rs, ns, x, y, h, hn => by
    obtain ⟨b1, b2⟩ := bodyLt_ok (s0 := s0) (y := y) (ns := ns) (h r List.mem_cons_self) hl (by rw [List.length_cons] at hn; omega)
    rw [List.map_cons]
    unfold loopF
    simp only [setT, List.set_cons_succ, List.set_cons_zero]
    cases e : r.w l with
    | none =>
      rw [b2 e]
      refine ⟨fun ms e' => ?_, fun _ => rfl⟩
      unfold turnN at e'
      rw [e] at e'
      cases e'
    | some n =>
      rw [b1 n e]
      obtain ⟨c1, c2⟩ := loopLt hl rs (ns ++ [n]) (.sh r.t) (.sh (.int (n : Nat))) (fun r m => h r (List.mem_cons_of_mem _ m)) (by rw [List.length_append, List.length_singleton]; rw [List.length_cons] at hn; omega)
      refine ⟨fun ms e' => ?_, fun e' => ?_⟩
      · unfold turnN at e'
        rw [e] at e'
        cases q1 : turnN l rs with
        | none => rw [q1] at e'; cases e'
        | some ks =>
          rw [q1] at e'
          cases e'
          obtain ⟨x', y', h'⟩ := c1 ks q1
          rw [List.append_assoc] at h'
          exact ⟨x', y', h'⟩
      · unfold turnN at e'
        rw [e] at e'
        cases q1 : turnN l rs with
        | none => exact c2 q1
        | some ks =>
          rw [q1] at e'
          cases e'
theorem lturned_ok {p q : Pg} {l : List Nat} {rs : List Rl} (h : Rls p q rs) (hq : q.ok) (hl : Nums p l) : m_law_turned [rulesT rs, numsT l] = .ok (oL (turnN l rs)) := by
  obtain ⟨c1, c2⟩ := loopLt (q := q) (s0 := .sh (rulesT rs)) hl rs [] .un .un h.ok (by rw [h.len]; have := hq.b3; show 0 + q.B ≤ 1000; omega)
  refine fDef_rt ?_
  show b_law_turned [.sh (rulesT rs), .sh (numsT l), .un, .un, .un] = _
  unfold b_law_turned
  have a1 : (sNew 2 (eLst aNil)) [.sh (rulesT rs), .sh (numsT l), .un, .un, .un] = .nx [.sh (rulesT rs), .sh (numsT l), .ow (.lst []), .un, .un] := rfl
  have hi : iIt (eV 0) [.sh (rulesT rs), .sh (numsT l), .ow (.lst []), .un, .un] = .ok (rs.map Rl.t) := rfl
  unfold bodyLt at c1 c2
  rw [sSeq_nx a1]
  cases e : turnN l rs with
  | none =>
    refine sSeq_rt ?_
    unfold sFor
    rw [hi]
    exact c2 e
  | some ms =>
    obtain ⟨x', y', h'⟩ := c1 ms e
    rw [sSeq_nx (sFor_ok hi h')]
    rfl
/-! ### by_row -/
def keysT (ps : List Pl) : List T := ps.map fun x => .int (x.row : Nat)
def byT (ps : List Pl) : T := .dic (keysT ps) (ps.map Pl.t)
theorem row_nd {ps : List Pl} (h : (ps.map Pl.row).Nodup) : (ps.map fun x => ((x.row : Nat) : Int)).Nodup := by
  have e : (ps.map fun x => ((x.row : Nat) : Int)) = (ps.map Pl.row).map fun n => ((n : Nat) : Int) := by rw [List.map_map]; rfl
  rw [e]
  exact List.Pairwise.map _ (fun a b h q => h (by omega)) h
theorem by_row_ok {ps : List Pl} (h : (ps.map Pl.row).Nodup) (hl : ps.length ≤ 1000) : m_by_row [.lst (ps.map Pl.t)] = .ok (byT ps) := by
  refine fDef_rt ?_
  show b_by_row [.sh (.lst (ps.map Pl.t)), .un] = _
  unfold b_by_row
  exact sRet_ok (eDComp_keys (u := Pl.t) (kf := fun x => ((x.row : Nat) : Int)) (wf := Pl.t) rfl hl (row_nd h) fun x m => ⟨rfl, rfl⟩)
theorem in_byT (ps : List Pl) (o : Nat) : gDIn false (.int (o : Nat)) (byT ps) = some (.bl (ps.any fun x => x.row == o)) := by
  have e := gDIn_keys (kf := fun x : Pl => ((x.row : Nat) : Int)) (ws := ps.map Pl.t) ps (o : Int)
  have e2 : (ps.any fun a => ((a.row : Nat) : Int) == (o : Int)) = ps.any fun x => x.row == o := by
    congr 1
    funext x
    by_cases c : x.row = o
    · rw [c]; simp
    · have c' : ¬ ((x.row : Nat) : Int) = o := by omega
      rw [beq_eq_false_iff_ne.mpr c, beq_eq_false_iff_ne.mpr c']
  rw [e2] at e
  exact e
theorem get_byT (ps : List Pl) (o : Nat) : gDGet (byT ps) (.int (o : Nat)) = (ps.find? fun x => x.row == o).map Pl.t := by
  have e := gDGet_keys (kf := fun x : Pl => ((x.row : Nat) : Int)) (wf := Pl.t) ps (o : Int)
  have e2 : (ps.find? fun a => ((a.row : Nat) : Int) == (o : Int)) = ps.find? fun x => x.row == o := by
    congr 1
    funext x
    by_cases c : x.row = o
    · rw [c]; simp
    · have c' : ¬ ((x.row : Nat) : Int) = o := by omega
      rw [beq_eq_false_iff_ne.mpr c, beq_eq_false_iff_ne.mpr c']
  rw [e2] at e
  exact e
end K08

namespace K08
open PySem PySem.Spec PyProof.Rows L2 Evl VS
/-! ### states as keys -/
def sT (s : Nat × List Nat) : T := stT s.1 s.2
def keyN (l : List Nat) : List NestedKey := l.map fun n => .num (n : Nat)
def keyS (s : Nat × List Nat) : NestedKey := .tup [.num (s.1 : Nat), .tup (keyN s.2)]
theorem nks_nums (l : List Nat) : nks? (l.map fun n => T.int (n : Nat)) = some (keyN l) := by
  induction l with
  | nil => rfl
  | cons n l ih =>
    rw [List.map_cons]
    unfold nks?
    rw [ih]
    rfl
theorem depth_nums (l : List Nat) : NestedKey.depthAll (keyN l) = 0 := by
  induction l with
  | nil => rfl
  | cons n l ih =>
    show NestedKey.depthAll (.num (n : Nat) :: keyN l) = 0
    unfold NestedKey.depthAll
    rw [ih]
    rfl
theorem tk_sT (s : Nat × List Nat) : tk? (sT s) = some (keyS s) := by
  have e : nks? [T.int (s.1 : Nat), numsT s.2] = some [.num (s.1 : Nat), .tup (keyN s.2)] := by
    unfold nks? nks? nks? numsT
    rw [show nk? (T.int (s.1 : Nat)) = some (.num (s.1 : Nat)) from rfl]
    rw [show nk? (.tup (s.2.map fun n => T.int (n : Nat))) = (nks? (s.2.map fun n => T.int (n : Nat))).map .tup from rfl, nks_nums]
    rfl
  have d : (NestedKey.tup [.num (s.1 : Nat), .tup (keyN s.2)]).depth ≤ 8 := by
    simp [NestedKey.depth, NestedKey.depthAll, depth_nums]
  unfold sT stT tk?
  simp only [e]
  rw [if_pos d]
  rfl
theorem keyS_inj {a b : Nat × List Nat} (h : keyS a = keyS b) : a = b := by
  obtain ⟨i, l⟩ := a
  obtain ⟨j, m⟩ := b
  unfold keyS at h
  injection h with h
  injection h with h1 h2
  injection h1 with h1
  injection h2 with h2 _
  injection h2 with h2
  have e1 : i = j := by
    have h1 : ((i : Nat) : Int) = (j : Nat) := h1
    omega
  have e2 : ∀ l m : List Nat, keyN l = keyN m → l = m := by
    intro l
    induction l with
    | nil =>
      intro m e
      cases m with
      | nil => rfl
      | cons b m => cases e
    | cons a l ih =>
      intro m e
      cases m with
      | nil => cases e
      | cons b m =>
        have e' : NestedKey.num (a : Nat) :: keyN l = .num (b : Nat) :: keyN m := e
        injection e' with q1 q2
        injection q1 with q1
        rw [ih m q2, show a = b by omega]
  rw [e1, e2 l m h2]
theorem tkEq_sT (a b : Nat × List Nat) : tkEq (sT a) (sT b) = decide (a = b) := by
  unfold tkEq
  rw [tk_sT, tk_sT]
  by_cases h : a = b
  · rw [h]; simp
  · rw [decide_eq_false h, decide_eq_false]
    intro z
    injection z with z
    exact h (keyS_inj z)
theorem any_sT (vis : List (Nat × List Nat)) (s : Nat × List Nat) : ((vis.map sT).any fun z => tkEq z (sT s)) = decide (s ∈ vis) := by
  induction vis with
  | nil => rfl
  | cons a l ih =>
    rw [List.map_cons, List.any_cons, ih, tkEq_sT]
    by_cases h : a = s
    · subst h; simp
    · have h' : ¬ s = a := fun z => h z.symm
      simp [h, h']
def nT (k n : Nat) : List T := (List.range' k n).map fun i => .int (i : Nat)
theorem look_sT (s : Nat × List Nat) : ∀ (vis : List (Nat × List Nat)) (k : Nat), s ∈ vis → lookK (vis.map sT) (nT k vis.length) (sT s) = some (.int ((k + vis.idxOf s : Nat) : Nat))
  | [], _, h => by cases h
  | a :: l, k, h => by
    show (if tkEq (sT a) (sT s) then some (T.int (k : Nat)) else lookK (l.map sT) (nT (k + 1) l.length) (sT s)) = _
    rw [tkEq_sT]
    by_cases e : a = s
    · subst e
      rw [if_pos (by simp), List.idxOf_cons_self]
      rfl
    · have h' : s ∈ l := by
        rcases List.mem_cons.mp h with h | h
        · exact absurd h.symm e
        · exact h
      rw [if_neg (by simpa using e), look_sT s l (k + 1) h', List.idxOf_cons, show (a == s) = false from by simpa using e]
      rw [cond_false, show k + 1 + List.idxOf s l = k + (List.idxOf s l + 1) by omega]
theorem put_sT {vis : List (Nat × List Nat)} {s : Nat × List Nat} (h : ¬ s ∈ vis) (t : T) {ws : List T} : putK2 (vis.map sT) ws (sT s) t = ((vis ++ [s]).map sT, ws ++ [t]) := by
  unfold putK2
  rw [any_sT, decide_eq_false h, if_neg (by decide), List.map_append]
  rfl
theorem nT_snoc (n : Nat) : nT 0 n ++ [T.int (n : Nat)] = nT 0 (n + 1) := by
  unfold nT
  rw [List.range'_concat, List.map_append]
  simp
/-! ### where it comes -/
def nxt (p : Pg) (s : Nat × List Nat) : Option (Nat × List Nat) := match p.rows[s.1]? with
  | some r => nx p s.1 s.2 r
  | none => none
def St (p : Pg) (i : Nat) (l : List Nat) : Prop := i < p.rows.length ∧ Nums p l
def StO (p : Pg) : Option (Nat × List Nat) → Prop
  | none => True
  | some (i, l) => St p i l
def metF (p : Pg) (ps : List Pl) : Nat → List (Nat × List Nat) → Option (Nat × List Nat) → Option T
  | 0, _, _ => none
  | _ + 1, vis, none => some (.tup [.str "over", .int (vis.length : Nat)])
  | n + 1, vis, some s =>
    if s ∈ vis then some (.tup [.str "missed", .int (vis.idxOf s : Nat), .int ((vis.length : Nat) - (vis.idxOf s : Nat))])
    else match ps.find? (fun x => x.row == s.1) with
      | some x => some (.tup [.str (if (turnN s.2 x.rules).isNone then "stuck" else "comes"), .int (vis.length : Nat)])
      | none => metF p ps n (vis ++ [s]) (nxt p s)
/-! ### a run -/
theorem nx_good {p : Pg} {i : Nat} {l : List Nat} {r : Rw} (h : p.ok) (hr : p.rows[i]? = some r) (hs : St p i l) : StO p (nx p i l r) := by
  have hk := h.rows r (List.mem_of_getElem? hr)
  have hn := hs.2.1
  have hm := hs.2.2
  have more : r.ends = false → i + 1 < p.rows.length := fun e => by
    rcases Nat.lt_or_ge (i + 1) p.rows.length with q | q
    · exact q
    · have e2 : i = p.rows.length - 1 := by have := hs.1; omega
      have := h.last r (by rw [List.getLast?_eq_getElem?, ← e2]; exact hr)
      rw [e] at this
      cases this
  have put : ∀ (b v : Nat), v ≤ p.M → Nums p (l.set b v) := fun b v hv => ⟨by rw [List.length_set]; exact hn, fun n m => by
    rcases List.mem_or_eq_of_mem_set m with m | m
    · exact hm n m
    · rw [m]; exact hv⟩
  have get : ∀ b : Nat, (l[b]?).getD 0 ≤ p.M := fun b => by
    cases e : l[b]? with
    | none => exact Nat.zero_le _
    | some v => exact hm v (List.mem_of_getElem? e)
  cases r with
  | put b n => exact ⟨more rfl, put b n hk.2⟩
  | more b =>
    refine ⟨more rfl, put b _ ?_⟩
    have := get b
    split <;> omega
  | copy b o => exact ⟨more rfl, put b _ (get o)⟩
  | tell b => exact ⟨more rfl, hs.2⟩
  | go r => exact ⟨hk, hs.2⟩
  | ask b r =>
    refine ⟨?_, hs.2⟩
    split
    · exact hk.2
    · exact more rfl
  | stop => trivial
/-! ### it ends -/
theorem nodup_lt : ∀ (N : Nat) (l : List Nat), l.Nodup → (∀ x ∈ l, x < N) → l.length ≤ N
  | 0, l, _, h => by
    cases l with
    | nil => exact Nat.le_refl _
    | cons a l => exact absurd (h a List.mem_cons_self) (Nat.not_lt_zero _)
  | N + 1, l, nd, h => by
    have e := nodup_lt N (l.erase N) (nd.erase N) fun x m => by
      have h1 := h x (List.mem_of_mem_erase m)
      have h2 : x ≠ N := fun z => by
        subst z
        exact nd.not_mem_erase m
      omega
    by_cases m : N ∈ l
    · rw [List.length_erase_of_mem m] at e; omega
    · rw [List.erase_of_not_mem m] at e; omega
def dig : List Nat → Nat
  | [] => 0
  | n :: l => n + 5 * dig l
theorem dig_lt : ∀ (k : Nat) (l : List Nat), l.length = k → (∀ n ∈ l, n ≤ 4) → dig l < 5 ^ k
  | 0, l, e, _ => by
    obtain rfl := List.eq_nil_of_length_eq_zero e
    decide
  | k + 1, l, e, h => by
    cases l with
    | nil => cases e
    | cons a l =>
      have h1 := dig_lt k l (by simpa using e) fun n m => h n (List.mem_cons_of_mem _ m)
      have h2 := h a List.mem_cons_self
      show a + 5 * dig l < 5 ^ (k + 1)
      rw [Nat.pow_succ]
      omega
theorem dig_inj : ∀ (l m : List Nat), l.length = m.length → (∀ n ∈ l, n ≤ 4) → (∀ n ∈ m, n ≤ 4) → dig l = dig m → l = m
  | [], m, e, _, _, _ => (List.eq_nil_of_length_eq_zero e.symm).symm
  | a :: l, m, e, h1, h2, h => by
    cases m with
    | nil => cases e
    | cons b m =>
      have q1 := h1 a List.mem_cons_self
      have q2 := h2 b List.mem_cons_self
      have h : a + 5 * dig l = b + 5 * dig m := h
      have e1 : a = b := by omega
      have e2 : dig l = dig m := by omega
      rw [e1, dig_inj l m (by simpa using e) (fun n z => h1 n (List.mem_cons_of_mem _ z)) (fun n z => h2 n (List.mem_cons_of_mem _ z)) e2]
def cod (s : Nat × List Nat) : Nat := s.1 * 125 + dig s.2
def StA (p : Pg) (vis : List (Nat × List Nat)) : Prop := ∀ s ∈ vis, St p s.1 s.2
theorem dig_125 {p : Pg} (h : p.ok) {i : Nat} {l : List Nat} (hs : St p i l) : dig l < 125 := by
  have e := dig_lt p.B l hs.2.1 fun n m => Nat.le_trans (hs.2.2 n m) h.m4
  exact Nat.lt_of_lt_of_le e (Nat.le_trans (Nat.pow_le_pow_right (by decide) h.b3) (by decide))
theorem cod_lt {p : Pg} (h : p.ok) {s : Nat × List Nat} (hs : St p s.1 s.2) : cod s < 2500 := by
  have e := dig_125 h hs
  have := hs.1
  have := h.n20
  unfold cod
  omega
theorem cod_inj {p : Pg} (h : p.ok) {s r : Nat × List Nat} (hs : St p s.1 s.2) (hr : St p r.1 r.2) (e : cod s = cod r) : s = r := by
  have e1 := dig_125 h hs
  have e2 := dig_125 h hr
  unfold cod at e
  have q1 : s.1 = r.1 := by omega
  have q2 : dig s.2 = dig r.2 := by omega
  have q3 := dig_inj s.2 r.2 (by rw [hs.2.1, hr.2.1]) (fun n m => Nat.le_trans (hs.2.2 n m) h.m4) (fun n m => Nat.le_trans (hr.2.2 n m) h.m4) q2
  exact Prod.ext q1 q3
theorem nodup_map {α β : Type} {f : α → β} : ∀ (l : List α), l.Nodup → (∀ a ∈ l, ∀ b ∈ l, f a = f b → a = b) → (l.map f).Nodup
  | [], _, _ => List.nodup_nil
  | a :: l, nd, h => by
    rw [List.map_cons, List.nodup_cons]
    refine ⟨fun m => ?_, nodup_map l (List.nodup_cons.mp nd).2 fun x hx y hy => h x (List.mem_cons_of_mem _ hx) y (List.mem_cons_of_mem _ hy)⟩
    obtain ⟨b, hb, e⟩ := List.mem_map.mp m
    have := h b (List.mem_cons_of_mem _ hb) a List.mem_cons_self e
    subst this
    exact (List.nodup_cons.mp nd).1 hb
theorem vis_len {p : Pg} (h : p.ok) {vis : List (Nat × List Nat)} (nd : vis.Nodup) (ok : StA p vis) : vis.length ≤ 2500 := by
  have e := nodup_lt 2500 (vis.map cod) (nodup_map vis nd fun a ha b hb z => cod_inj h (ok a ha) (ok b hb) z) fun x m => by
    obtain ⟨s, hs, rfl⟩ := List.mem_map.mp m
    exact cod_lt h (ok s hs)
  rw [List.length_map] at e
  exact e
theorem nxt_ok {p : Pg} (h : p.ok) {s : Nat × List Nat} (hs : St p s.1 s.2) : StO p (nxt p s) := by
  unfold nxt
  rw [List.getElem?_eq_getElem hs.1]
  exact nx_good h (List.getElem?_eq_getElem hs.1) hs
theorem vis_snoc {p : Pg} {vis : List (Nat × List Nat)} {s : Nat × List Nat} (nd : vis.Nodup) (ok : StA p vis) (hs : St p s.1 s.2) (hn : ¬ s ∈ vis) : (vis ++ [s]).Nodup ∧ StA p (vis ++ [s]) := by
  refine ⟨?_, fun x m => ?_⟩
  · rw [List.nodup_append]
    refine ⟨nd, by simp, fun a ha b hb e => ?_⟩
    rw [List.mem_singleton] at hb
    subst hb
    subst e
    exact hn ha
  · rcases List.mem_append.mp m with m | m
    · exact ok x m
    · rw [List.mem_singleton] at m
      subst m
      exact hs
theorem metF_ends {p : Pg} (h : p.ok) (ps : List Pl) : ∀ (n : Nat) (vis : List (Nat × List Nat)) (o : Option (Nat × List Nat)), vis.Nodup → StA p vis → StO p o → 2501 ≤ vis.length + n → ∃ t, metF p ps n vis o = some t
  | 0, vis, o, nd, ok, _, hl => by
    have := vis_len h nd ok
    omega
  | n + 1, vis, none, _, _, _, _ => ⟨_, rfl⟩
  | n + 1, vis, some s, nd, ok, hs, hl => by
    have hs : St p s.1 s.2 := hs
    unfold metF
    by_cases m : s ∈ vis
    · exact ⟨_, if_pos m⟩
    · rw [if_neg m]
      cases e : ps.find? (fun x => x.row == s.1) with
      | some x => exact ⟨_, rfl⟩
      | none =>
        obtain ⟨nd', ok'⟩ := vis_snoc nd ok hs m
        exact metF_ends h ps n (vis ++ [s]) (nxt p s) nd' ok' (nxt_ok h hs) (by rw [List.length_append]; simp; omega)
end K08

namespace K08
open PySem PySem.Spec PyProof.Rows L2 Evl VS
/-! ### the loops -/
theorem lt_big4 {n : Nat} (h : n ≤ 4000) : n < 100000 := Nat.lt_of_le_of_lt h (by decide)
theorem whF_f {fc : FE} {body : FS} {n : Nat} {ρ : Ev'} (h : fc ρ = .ok (.bl false)) : whF fc body (n + 1) ρ = .nx ρ := by
  unfold whF
  rw [h]
  rfl
theorem whF_nx {fc : FE} {body : FS} {n : Nat} {ρ ρ2 : Ev'} (h : fc ρ = .ok (.bl true)) (hb : body ρ = .nx ρ2) : whF fc body (n + 1) ρ = whF fc body n ρ2 := by
  conv => lhs; unfold whF
  rw [h]
  show (match body ρ with | .nx ρ2 => whF fc body n ρ2 | .ct ρ2 => whF fc body n ρ2 | .bk ρ2 => .nx ρ2 | .rt t => .rt t | .ex x p r => .ex x p r | .bad => .bad) = _
  rw [hb]
theorem whF_rt {fc : FE} {body : FS} {n : Nat} {ρ : Ev'} {t : T} (h : fc ρ = .ok (.bl true)) (hb : body ρ = .rt t) : whF fc body (n + 1) ρ = .rt t := by
  unfold whF
  rw [h]
  show (match body ρ with | .nx ρ2 => whF fc body n ρ2 | .ct ρ2 => whF fc body n ρ2 | .bk ρ2 => .nx ρ2 | .rt t => .rt t | .ex x p r => .ex x p r | .bad => .bad) = _
  rw [hb]
theorem any_find {α : Type} (f : α → Bool) (l : List α) : l.any f = (l.find? f).isSome := by
  induction l with
  | nil => rfl
  | cons a l ih =>
    rw [List.any_cons, List.find?_cons]
    cases f a with
    | true => rfl
    | false => exact ih
def lrT (ps : List Pl) : T := .dic (keysT ps) (ps.map fun x => rulesT x.rules)
theorem in_lrT (ps : List Pl) (o : Nat) : gDIn false (.int (o : Nat)) (lrT ps) = some (.bl (ps.any fun x => x.row == o)) := by
  have e := gDIn_keys (kf := fun x : Pl => ((x.row : Nat) : Int)) (ws := ps.map fun x => rulesT x.rules) ps (o : Int)
  have e2 : (ps.any fun a => ((a.row : Nat) : Int) == (o : Int)) = ps.any fun x => x.row == o := by
    congr 1
    funext x
    by_cases c : x.row = o
    · rw [c]; simp
    · have c' : ¬ ((x.row : Nat) : Int) = o := by omega
      rw [beq_eq_false_iff_ne.mpr c, beq_eq_false_iff_ne.mpr c']
  rw [e2] at e
  exact e
theorem get_lrT (ps : List Pl) (o : Nat) : gDGet (lrT ps) (.int (o : Nat)) = (ps.find? fun x => x.row == o).map fun x => rulesT x.rules := by
  have e := gDGet_keys (kf := fun x : Pl => ((x.row : Nat) : Int)) (wf := fun x : Pl => rulesT x.rules) ps (o : Int)
  have e2 : (ps.find? fun a => ((a.row : Nat) : Int) == (o : Int)) = ps.find? fun x => x.row == o := by
    congr 1
    funext x
    by_cases c : x.row = o
    · rw [c]; simp
    · have c' : ¬ ((x.row : Nat) : Int) = o := by omega
      rw [beq_eq_false_iff_ne.mpr c, beq_eq_false_iff_ne.mpr c']
  rw [e2] at e
  exact e
theorem isN_oL (o : Option (List Nat)) : gIsN' (oL o) .non = some (.bl o.isNone) := by cases o <;> rfl
theorem stuck_ok {p q : Pg} {ps : List Pl} {s : Nat × List Nat} {x : Pl} (hq : q.ok) (hps : Pls p q ps) (hs : St p s.1 s.2) (hx : ps.find? (fun x => x.row == s.1) = some x) : m_is_stuck [byT ps, sT s] = .ok (.bl (turnN s.2 x.rules).isNone) := by
  have hm := List.mem_of_find?_eq_some hx
  have h1 := turned_ok (hps.ok x hm).rules hq hs.2
  have h2 : gDIn false (.int (s.1 : Nat)) (byT ps) = some (.bl true) := by rw [in_byT, any_find, hx]; rfl
  have h3 : gDGet (byT ps) (.int (s.1 : Nat)) = some x.t := by rw [get_byT, hx]; rfl
  have h4 : gIx x.t (.int 2) = some (rulesT x.rules) := rfl
  have h5 := isN_oL (turnN s.2 x.rules)
  refine fDef_rt ?_
  show b_is_stuck [.sh (byT ps), .sh (sT s), .un, .un] = _
  unfold b_is_stuck
  generalize m_turned = F at *
  generalize oL (turnN s.2 x.rules) = R at *
  refine pAsg (P := fun o => o = .rt (T.bl (turnN s.2 x.rules).isNone)) (ρ' := [.sh (byT ps), .sh (sT s), .sh (.int (s.1 : Nat)), .sh (numsT s.2)]) rfl rfl ?_
  refine pRet (P := fun o => o = .rt (T.bl (turnN s.2 x.rules).isNone)) (eAnd_bl (a := true) (eB_ok rfl rfl h2) fun _ => (eB_ok (eCall_ok (aCons_ok (eB_ok (eB_ok rfl rfl h3) rfl h4) (aCons_ok rfl rfl)) rfl h1) rfl h5)) ?_
  rfl
theorem ndHas_sT {vis : List (Nat × List Nat)} {s : Nat × List Nat} : ndHas (vis.map sT) (sT s) = some (decide (s ∈ vis)) := by
  show (match tk? (sT s) with | some _ => some ((vis.map sT).any fun z => tkEq z (sT s)) | none => none) = _
  rw [tk_sT, any_sT]
theorem dtIn_ok {neg : Bool} {i : Nat} {fa : FE} {ρ : Ev'} {vis : List (Nat × List Nat)} {ws : List T} {s : Nat × List Nat} (h : ρ[i]? = some (.dp (.dt (vis.map sT) ws))) (ha : fa ρ = .ok (sT s)) : eDtIn neg i fa ρ = .ok (.bl (if neg then !decide (s ∈ vis) else decide (s ∈ vis))) := by
  unfold eDtIn
  rw [ha]
  show (match ρ[i]? with | some (.dp (.dt ks _)) => (match ndHas ks (sT s) with | some b => Res.ok (T.bl (if neg then !b else b)) | none => .bad) | _ => .bad) = _
  rw [h]
  show (match ndHas (vis.map sT) (sT s) with | some b => Res.ok (T.bl (if neg then !b else b)) | none => .bad) = _
  rw [ndHas_sT]
theorem dtIn_non {neg : Bool} {i : Nat} {fa : FE} {ρ : Ev'} {ks ws : List T} (h : ρ[i]? = some (.dp (.dt ks ws))) (ha : fa ρ = .ok .non) : eDtIn neg i fa ρ = .ok (.bl neg) := by
  unfold eDtIn
  rw [ha]
  show (match ρ[i]? with | some (.dp (.dt ks _)) => (match ndHas ks .non with | some b => Res.ok (T.bl (if neg then !b else b)) | none => .bad) | _ => .bad) = _
  rw [h]
  cases neg <;> rfl
theorem dtLen_ok {i : Nat} {ρ : Ev'} {vis : List (Nat × List Nat)} {ws : List T} (h : ρ[i]? = some (.dp (.dt (vis.map sT) ws))) : eDtLen i ρ = .ok (.int (vis.length : Nat)) := by
  unfold eDtLen
  rw [h]
  show Res.ok (T.int ((vis.map sT).length : Nat)) = _
  rw [List.length_map]
theorem dtGet_ok {i : Nat} {fk : FE} {ρ : Ev'} {vis : List (Nat × List Nat)} {s : Nat × List Nat} (h : ρ[i]? = some (.dp (.dt (vis.map sT) (nT 0 vis.length)))) (hk : fk ρ = .ok (sT s)) (hm : s ∈ vis) : eDtGet i fk ρ = .ok (.int (vis.idxOf s : Nat)) := by
  unfold eDtGet
  rw [h]
  show ((fk ρ).bind fun k => (match tk? k with | some _ => Res.of (lookK (vis.map sT) (nT 0 vis.length) k) | none => .bad)) = _
  rw [hk]
  show (match tk? (sT s) with | some _ => Res.of (lookK (vis.map sT) (nT 0 vis.length) (sT s)) | none => .bad) = _
  rw [tk_sT]
  show Res.of (lookK (vis.map sT) (nT 0 vis.length) (sT s)) = _
  rw [look_sT s vis 0 hm, Nat.zero_add]
  rfl
theorem dtPut_ok {i : Nat} {fk fe : FE} {ρ : Ev'} {vis : List (Nat × List Nat)} {s : Nat × List Nat} (h : ρ[i]? = some (.dp (.dt (vis.map sT) (nT 0 vis.length)))) (he : fe ρ = .ok (.int (vis.length : Nat))) (hk : fk ρ = .ok (sT s)) (hm : ¬ s ∈ vis) (hl : vis.length ≤ 4000) :
    sDtPut i fk fe ρ = .nx (ρ.set i (.dp (.dt ((vis ++ [s]).map sT) (nT 0 (vis ++ [s]).length)))) := by
  unfold sDtPut
  rw [he]
  show (match ρ[i]? with
  | some (.dp (.dt ks ws)) => sLift ρ (fk ρ) fun k => (match tk? k with | some _ => if ks.length < 100000 then Out.nx (ρ.set i (.dp (.dt (putK2 ks ws k (.int (vis.length : Nat))).1 (putK2 ks ws k (.int (vis.length : Nat))).2))) else .bad | none => .bad)
  | _ => .bad) = _
  rw [h, hk]
  show (match tk? (sT s) with | some _ => if (vis.map sT).length < 100000 then Out.nx (ρ.set i (.dp (.dt (putK2 (vis.map sT) (nT 0 vis.length) (sT s) (.int (vis.length : Nat))).1 (putK2 (vis.map sT) (nT 0 vis.length) (sT s) (.int (vis.length : Nat))).2))) else .bad | none => .bad) = _
  rw [tk_sT]
  show (if (vis.map sT).length < 100000 then Out.nx (ρ.set i (.dp (.dt (putK2 (vis.map sT) (nT 0 vis.length) (sT s) (.int (vis.length : Nat))).1 (putK2 (vis.map sT) (nT 0 vis.length) (sT s) (.int (vis.length : Nat))).2))) else .bad) = _
  rw [if_pos (by rw [List.length_map]; exact lt_big4 hl), put_sT hm, nT_snoc, List.length_append]
  rfl
def cL : FE := (eB gNotN' (eW 2) (eC .non))
def bL : FS := (sSeq (sIf (eDtIn false 3 (eV 2)) (sRet (eTup (aCons (eC (.str "missed")) (aCons (eDtGet 3 (eV 2)) (aCons (eB gSubI (eDtLen 3) (eDtGet 3 (eV 2))) aNil))))) sNx)
  (sSeq (sIf (eB (gDIn false) (eB gIx (eW 2) (eC (.int 0))) (eW 1)) (sRet (eTup (aCons (eB gIx (eLst (aCons (eC (.str "comes")) (aCons (eC (.str "stuck")) aNil))) (eU gInt (eB gIsN' (eCall 2 m_law_turned (aCons (eB gDGet (eW 1) (eB gIx (eW 2) (eC (.int 0)))) (aCons (eB gIx (eW 2) (eC (.int 1))) aNil))) (eC .non)))) (aCons (eDtLen 3) aNil)))) sNx)
  (sSeq (sDtPut 3 (eV 2) (eDtLen 3))
  (sSet 2 (eB gIx (eCall 2 m_law_step (aCons (eV 0) (aCons (eV 2) aNil))) (eC (.int 0)))))))
def rL : FS := (sRet (eTup (aCons (eC (.str "over")) (aCons (eDtLen 3) aNil))))
theorem loopL {p q : Pg} {ps : List Pl} (hp : p.ok) (hq : q.ok) (hps : Pls p q ps) : ∀ (n : Nat) (vis : List (Nat × List Nat)) (o : Option (Nat × List Nat)) (t : T), metF p ps n vis o = some t → StO p o → vis.length + n ≤ 4000 →
    sSeq (whF cL bL n) rL [.sh p.t, .sh (lrT ps), .sh (oS o), .dp (.dt (vis.map sT) (nT 0 vis.length))] = .rt t
  | 0, _, _, _, e, _, _ => by cases e
  | n + 1, vis, none, t, e, _, _ => by
    unfold metF at e
    cases e
    have c : cL [.sh p.t, .sh (lrT ps), .sh (oS none), .dp (.dt (vis.map sT) (nT 0 vis.length))] = .ok (.bl false) := rfl
    rw [sSeq_nx (whF_f c)]
    exact pRet (P := fun o => o = .rt _) (eTup_ok (aCons_ok rfl (aCons_ok (dtLen_ok rfl) rfl)) (by show 2 ≤ 1000; decide)) rfl
  | n + 1, vis, some s, t, e, hs, hl => by
    have hs : St p s.1 s.2 := hs
    have c : cL [.sh p.t, .sh (lrT ps), .sh (sT s), .dp (.dt (vis.map sT) (nT 0 vis.length))] = .ok (.bl true) := rfl
    have ci : eDtIn false 3 (eV 2) [.sh p.t, .sh (lrT ps), .sh (sT s), .dp (.dt (vis.map sT) (nT 0 vis.length))] = .ok (.bl (decide (s ∈ vis))) := dtIn_ok (neg := false) rfl rfl
    unfold metF at e
    show sSeq (whF cL bL (n + 1)) rL [.sh p.t, .sh (lrT ps), .sh (sT s), .dp (.dt (vis.map sT) (nT 0 vis.length))] = .rt t
    by_cases m : s ∈ vis
    · rw [if_pos m] at e
      cases e
      rw [decide_eq_true m] at ci
      have bb : bL [.sh p.t, .sh (lrT ps), .sh (sT s), .dp (.dt (vis.map sT) (nT 0 vis.length))] = .rt (.tup [.str "missed", .int (vis.idxOf s : Nat), .int ((vis.length : Nat) - (vis.idxOf s : Nat))]) := by
        unfold bL
        refine pIfT (P := fun o => o = .rt _) ci ?_
        exact pRetS (P := fun o => o = .rt _) (eTup_ok (aCons_ok rfl (aCons_ok (dtGet_ok rfl rfl m) (aCons_ok (eB_ok (dtLen_ok rfl) (dtGet_ok rfl rfl m) rfl) rfl))) (by show 3 ≤ 1000; decide)) rfl
      unfold sSeq
      rw [whF_rt c bb]
    · rw [if_neg m] at e
      rw [decide_eq_false m] at ci
      have hin : gDIn false (.int (s.1 : Nat)) (lrT ps) = some (.bl (ps.find? fun x => x.row == s.1).isSome) := by rw [in_lrT, any_find]
      cases f : ps.find? (fun x => x.row == s.1) with
      | some x =>
        rw [f] at e hin
        cases e
        have hm := List.mem_of_find?_eq_some f
        have h1 := lturned_ok (hps.ok x hm).rules hq hs.2
        have h3 : gDGet (lrT ps) (.int (s.1 : Nat)) = some (rulesT x.rules) := by rw [get_lrT, f]; rfl
        have h5 := isN_oL (turnN s.2 x.rules)
        have h6 : gIx (.lst [.str "comes", .str "stuck"]) (.int (if (turnN s.2 x.rules).isNone then 1 else 0)) = some (.str (if (turnN s.2 x.rules).isNone then "stuck" else "comes")) := by
          cases (turnN s.2 x.rules).isNone <;> rfl
        have h7 : gInt (.bl (turnN s.2 x.rules).isNone) = some (.int (if (turnN s.2 x.rules).isNone then 1 else 0)) := by
          cases (turnN s.2 x.rules).isNone <;> rfl
        have bb : bL [.sh p.t, .sh (lrT ps), .sh (sT s), .dp (.dt (vis.map sT) (nT 0 vis.length))] = .rt (.tup [.str (if (turnN s.2 x.rules).isNone then "stuck" else "comes"), .int (vis.length : Nat)]) := by
          unfold bL
          generalize m_law_turned = F at *
          generalize oL (turnN s.2 x.rules) = R at *
          generalize (turnN s.2 x.rules).isNone = B at *
          have g0 : gIx (sT s) (.int 0) = some (.int (s.1 : Nat)) := rfl
          have g1 : gIx (sT s) (.int 1) = some (numsT s.2) := rfl
          have hc : eCall 2 F (aCons (eB gDGet (eW 1) (eB gIx (eW 2) (eC (.int 0)))) (aCons (eB gIx (eW 2) (eC (.int 1))) aNil)) [.sh p.t, .sh (lrT ps), .sh (sT s), .dp (.dt (vis.map sT) (nT 0 vis.length))] = .ok R :=
            eCall_ok (aCons_ok (eB_ok rfl (eB_ok rfl rfl g0) h3) (aCons_ok (eB_ok rfl rfl g1) rfl)) rfl h1
          have hL : eLst (aCons (eC (.str "comes")) (aCons (eC (.str "stuck")) aNil)) [.sh p.t, .sh (lrT ps), .sh (sT s), .dp (.dt (vis.map sT) (nT 0 vis.length))] = .ok (.lst [.str "comes", .str "stuck"]) := eLst_ok (aCons_ok rfl (aCons_ok rfl rfl)) (by show 2 ≤ 1000; decide)
          refine pIfF (P := fun o => o = .rt _) ci ?_
          refine pNx (P := fun o => o = .rt _) ?_
          refine pIfT (P := fun o => o = .rt _) (eB_ok (eB_ok rfl rfl g0) rfl hin) ?_
          exact pRetS (P := fun o => o = .rt _) (eTup_ok (aCons_ok (eB_ok hL (eU_ok (eB_ok hc rfl h5) h7) h6) (aCons_ok (dtLen_ok rfl) rfl)) (by show 2 ≤ 1000; decide)) rfl
        unfold sSeq
        rw [whF_rt c bb]
      | none =>
        rw [f] at e hin
        have hlt := hs.1
        have hr : p.rows[s.1]? = some p.rows[s.1] := List.getElem?_eq_getElem hs.1
        have h1 := lstep_ok hp hr hs.2
        have en : nxt p s = nx p s.1 s.2 p.rows[s.1] := by unfold nxt; rw [hr]
        have bb : bL [.sh p.t, .sh (lrT ps), .sh (sT s), .dp (.dt (vis.map sT) (nT 0 vis.length))] = .nx [.sh p.t, .sh (lrT ps), .sh (oS (nxt p s)), .dp (.dt ((vis ++ [s]).map sT) (nT 0 (vis ++ [s]).length))] := by
          unfold bL
          generalize m_law_step = F at *
          refine pIfF (P := fun o => o = .nx _) ci ?_
          refine pNx (P := fun o => o = .nx _) ?_
          refine pIfF (P := fun o => o = .nx _) (eB_ok (eB_ok rfl rfl (show gIx (sT s) (.int 0) = some (.int (s.1 : Nat)) from rfl)) rfl hin) ?_
          refine pNx (P := fun o => o = .nx _) ?_
          refine pSeq (P := fun o => o = .nx _) (dtPut_ok rfl (dtLen_ok rfl) rfl m (by omega)) ?_
          simp only [List.set_cons_succ, List.set_cons_zero]
          have h2 : eCall 2 F (aCons (eV 0) (aCons (eV 2) aNil)) [.sh p.t, .sh (lrT ps), .sh (sT s), .dp (.dt ((vis ++ [s]).map sT) (nT 0 (vis ++ [s]).length))] = .ok (stepT p s.1 s.2 p.rows[s.1]) := eCall_ok (aCons_ok rfl (aCons_ok rfl rfl)) rfl h1
          rw [sSet_ok (eB_ok h2 rfl (show gIx (stepT p s.1 s.2 p.rows[s.1]) (.int 0) = some (oS (nxt p s)) from by rw [en]; rfl))]
          rfl
        rw [show sSeq (whF cL bL (n + 1)) rL [.sh p.t, .sh (lrT ps), .sh (sT s), .dp (.dt (vis.map sT) (nT 0 vis.length))] = sSeq (whF cL bL n) rL [.sh p.t, .sh (lrT ps), .sh (oS (nxt p s)), .dp (.dt ((vis ++ [s]).map sT) (nT 0 (vis ++ [s]).length))] from by
          unfold sSeq
          rw [whF_nx c bb]]
        exact loopL hp hq hps n (vis ++ [s]) (nxt p s) t e (nxt_ok hp hs) (by rw [List.length_append]; simp; omega)
/-! ### met -/
def metT (p : Pg) (ps : List Pl) (s : Nat × List Nat) : T := (metF p ps 3000 [] (some s)).getD .non
theorem metT_eq {p : Pg} (h : p.ok) (ps : List Pl) {s : Nat × List Nat} (hs : St p s.1 s.2) : metF p ps 3000 [] (some s) = some (metT p ps s) := by
  obtain ⟨t, e⟩ := metF_ends h ps 3000 [] (some s) List.nodup_nil (fun x m => by cases m) hs (by decide)
  unfold metT
  rw [e]
  rfl
theorem lmet_ok {p q : Pg} {ps : List Pl} {s : Nat × List Nat} (hp : p.ok) (hq : q.ok) (hps : Pls p q ps) (hs : St p s.1 s.2) : m_law_met [p.t, lrT ps, sT s] = .ok (metT p ps s) := by
  have h3 := loopL hp hq hps 3000 [] (some s) _ (metT_eq hp ps hs) hs (by decide)
  refine fDef_rt ?_
  show b_law_met [.sh p.t, .sh (lrT ps), .sh (sT s), .un] = _
  unfold b_law_met
  refine pSeq (P := fun o => o = .rt (metT p ps s)) (f := sNewDt 3) rfl ?_
  exact h3
end K08

namespace K08
open PySem PySem.Spec PyProof.Rows L2 Evl VS
/-! ### worths, rules -/
theorem gNe_strs {x y : Str} {b : Bool} (h : ((x.cps.all (· < 0x110000) && y.cps.all (· < 0x110000)) && ((x == y) == !b)) = true) : gNe (.str x) (.str y) = some (.bl b) := by
  have h' := Bool.and_eq_true_iff.mp h
  have h2 : (x == y) = !b := by simpa using h'.2
  unfold gNe
  rw [okD_str, okD_str, if_pos h'.1, eqT_str, h2, Bool.not_not]
theorem e_at_is : gEq (.str "at") (.str "is") = some (.bl false) := gEq_strs (by decide +kernel)
theorem n_at_by : gNe (.str "at") (.str "by") = some (.bl true) := gNe_strs (by decide +kernel)
theorem n_by_by : gNe (.str "by") (.str "by") = some (.bl false) := gNe_strs (by decide +kernel)
theorem isworth_int (q : Pg) (z : Int) : m_is_worth [q.t, .int z] = .ok (.bl (decide (0 ≤ z) && decide (z ≤ (q.M : Nat)))) := by
  have h := whole_eq (.int z) 0 (q.M : Nat) rfl
  have h : m_whole [.int z, .int 0, .int (q.M : Nat)] = .ok (.bl (decide (0 ≤ z) && decide (z ≤ (q.M : Nat)))) := h
  refine fDef_rt ?_
  show b_is_worth [.sh q.t, .sh (.int z)] = _
  unfold b_is_worth
  generalize m_whole = F at *
  exact pRet (P := fun o => o = .rt _) (eOr_bl (a := false) rfl fun _ => eCall_ok (aCons_ok rfl (aCons_ok rfl (aCons_ok (eB_ok rfl rfl rfl) rfl))) rfl h) rfl
theorem isworth_non (q : Pg) : m_is_worth [q.t, .non] = .ok (.bl true) := by
  refine fDef_rt ?_
  show b_is_worth [.sh q.t, .sh .non] = _
  unfold b_is_worth
  generalize m_whole = F at *
  rfl
theorem isworth_bl (q : Pg) (b : Bool) : m_is_worth [q.t, .bl b] = .ok (.bl false) := by
  have h := whole_eq (.bl b) 0 (q.M : Nat) rfl
  have h : m_whole [.bl b, .int 0, .int (q.M : Nat)] = .ok (.bl false) := h
  refine fDef_rt ?_
  show b_is_worth [.sh q.t, .sh (.bl b)] = _
  unfold b_is_worth
  generalize m_whole = F at *
  exact pRet (P := fun o => o = .rt _) (eOr_bl (a := false) rfl fun _ => eCall_ok (aCons_ok rfl (aCons_ok rfl (aCons_ok (eB_ok rfl rfl rfl) rfl))) rfl h) rfl
theorem isworth_oN {q : Pg} {v : Option Nat} (h : ∀ n, v = some n → n ≤ q.M) : m_is_worth [q.t, oN v] = .ok (.bl true) := by
  cases v with
  | none => exact isworth_non q
  | some n =>
    have e := isworth_int q (n : Nat)
    have h1 := h n rfl
    rw [decide_eq_true (by omega : (0 : Int) ≤ (n : Nat)), decide_eq_true (by omega : ((n : Nat) : Int) ≤ (q.M : Nat))] at e
    exact e
/-- all(f(x) for x in l), each with its own answer -/
def bOf : Res T → Bool
  | .ok (.bl b) => b
  | _ => false
theorem allF {fi : FI} {i : Nat} {is : List Nat} {fe : FE} {ρ : Ev'} {l : List T} {F : T → Res T} (hi : fi ρ = .ok l) (hl : l.length ≤ 99999) (he : ∀ t, fe ((wipeE ρ is).set i (.sh t)) = F t) (h : ∀ t ∈ l, ∃ b, F t = .ok (.bl b)) :
    eU gAll (eComp fi (.nm i) is (eC (.bl true)) fe) ρ = .ok (.bl (l.all fun t => bOf (F t))) :=
  eAll_comp (f := fun t => bOf (F t)) hi hl fun t m => by
    obtain ⟨b, e⟩ := h t m
    rw [he, e]
    rfl
theorem rule_by {p q : Pg} {x : T} {ns : List T} {c : Bool} (hx : m_whole [x, .int 0, .int ((p.B : Nat) - 1)] = .ok (.bl c)) (hl : ns.length ≤ 99999) (hn : ∀ t ∈ ns, ∃ b, m_is_worth [q.t, t] = .ok (.bl b)) :
    m_is_rule [p.t, q.t, .tup [.str "by", x, .tup ns]] = .ok (.bl (c && (decide (ns.length = p.M + 1) && ns.all fun t => bOf (m_is_worth [q.t, t])))) := by
  refine fDef_rt ?_
  show b_is_rule [.sh p.t, .sh q.t, .sh (.tup [.str "by", x, .tup ns]), .un, .un, .un, .un, .un, .un] = _
  have hal : ∀ ρ', eU gAll (eComp (iIt (eV 7)) (.nm 8) [8] (eC (.bl true)) (eCall 2 m_is_worth (aCons (eV 1) (aCons (eV 8) aNil)))) [.sh p.t, .sh q.t, .sh (.tup [.str "by", x, .tup ns]), .sh (.int p.B), .sh (.int p.M), .sh (.str "by"), .sh x, .sh (.tup ns), ρ'] = .ok (.bl (ns.all fun t => bOf (m_is_worth [q.t, t]))) := fun ρ' =>
    allF (F := fun t => m_is_worth [q.t, t]) rfl hl (fun t => eCall_ok (aCons_ok rfl (aCons_ok rfl rfl)) rfl rfl) hn
  unfold b_is_rule
  generalize (ns.all fun t => bOf (m_is_worth [q.t, t])) = A at *
  generalize m_is_worth = F1 at *
  generalize m_whole = F2 at *
  have hnl : gLen (.tup ns) = some (.int (ns.length : Nat)) := rfl
  refine pIfF (P := fun o => o = .rt _) (eOr_bl (a := false) (b := false) rfl fun _ => eOr_bl (a := false) (b := false) (eB_ok rfl rfl (gEq_int _ _)) fun _ => rfl) ?_
  refine pNx (P := fun o => o = .rt _) ?_
  refine pIfF (P := fun o => o = .rt _) (eB_ok (eB_ok rfl rfl (show gIx (.tup [.str "by", x, .tup ns]) (.int 0) = some (.str "by") from rfl)) rfl e_by_is) ?_
  refine pNx (P := fun o => o = .rt _) ?_
  refine pIfF (P := fun o => o = .rt _) (eOr_bl (a := false) (b := false) (eB_ok (eB_ok rfl rfl (show gIx (.tup [.str "by", x, .tup ns]) (.int 0) = some (.str "by") from rfl)) rfl n_by_by) fun _ => eB_ok (eU_ok rfl rfl) rfl (gNe_int _ _)) ?_
  refine pNx (P := fun o => o = .rt _) ?_
  refine pAsg (P := fun o => o = .rt _) (ρ' := [.sh p.t, .sh q.t, .sh (.tup [.str "by", x, .tup ns]), .sh (.int p.B), .sh (.int p.M), .sh (.lst (p.rows.map Rw.t)), .un, .un, .un]) rfl rfl ?_
  refine pAsg (P := fun o => o = .rt _) (ρ' := [.sh p.t, .sh q.t, .sh (.tup [.str "by", x, .tup ns]), .sh (.int p.B), .sh (.int p.M), .sh (.str "by"), .sh x, .sh (.tup ns), .un]) rfl rfl ?_
  have e9 : decide (((ns.length : Nat) : Int) = (p.M : Nat) + 1) = decide (ns.length = p.M + 1) := by
    by_cases z : ns.length = p.M + 1
    · rw [decide_eq_true z, decide_eq_true (by omega)]
    · rw [decide_eq_false z, decide_eq_false (by omega)]
  refine pIfS (P := fun o => o = .rt _) (b := !c || (false || !decide (ns.length = p.M + 1))) (eOr_bl (eNot_bl (eCall_ok (aCons_ok rfl (aCons_ok rfl (aCons_ok (eB_ok rfl rfl rfl) rfl))) rfl hx)) fun _ => eOr_bl (a := false) (eB_ok rfl rfl rfl) fun _ => eB_ok (eU_ok rfl hnl) (eB_ok rfl rfl rfl) (by rw [gNe_int, e9])) (fun z => ?_) (fun z => ?_)
  · refine pRetS (P := fun o => o = .rt _) rfl ?_
    generalize decide (ns.length = p.M + 1) = d at *
    cases c <;> cases d <;> first | rfl | cases z
  · refine pNx (P := fun o => o = .rt _) ?_
    refine pRet (P := fun o => o = .rt _) (hal _) ?_
    generalize decide (ns.length = p.M + 1) = d at *
    cases c <;> cases d <;> first | rfl | cases z
theorem rule_is {p q : Pg} {x : T} {b : Bool} (h : m_is_worth [q.t, x] = .ok (.bl b)) : m_is_rule [p.t, q.t, .tup [.str "is", x]] = .ok (.bl b) := by
  refine fDef_rt ?_
  show b_is_rule [.sh p.t, .sh q.t, .sh (.tup [.str "is", x]), .un, .un, .un, .un, .un, .un] = _
  unfold b_is_rule
  generalize m_is_worth = F1 at *
  generalize m_whole = F2 at *
  refine pIfF (P := fun o => o = .rt _) (eOr_bl (a := false) (b := false) rfl fun _ => eOr_bl (a := false) (b := false) (eB_ok rfl rfl (gEq_int _ _)) fun _ => rfl) ?_
  refine pNx (P := fun o => o = .rt _) ?_
  refine pIfT (P := fun o => o = .rt _) (eB_ok (eB_ok rfl rfl (show gIx (.tup [.str "is", x]) (.int 0) = some (.str "is") from rfl)) rfl e_is_is) ?_
  exact pRetS (P := fun o => o = .rt _) (eAnd_bl (a := true) (eB_ok (eU_ok rfl rfl) rfl (gEq_int _ _)) fun _ => eCall_ok (aCons_ok rfl (aCons_ok (eB_ok rfl rfl (show gIx (.tup [.str "is", x]) (.int 1) = some x from rfl)) rfl)) rfl h) rfl
theorem rule_is_len {p q : Pg} {l : List T} (h : l.length ≠ 1) : m_is_rule [p.t, q.t, .tup (.str "is" :: l)] = .ok (.bl false) := by
  refine fDef_rt ?_
  show b_is_rule [.sh p.t, .sh q.t, .sh (.tup (.str "is" :: l)), .un, .un, .un, .un, .un, .un] = _
  unfold b_is_rule
  generalize m_is_worth = F1 at *
  generalize m_whole = F2 at *
  have g0 : gIx (.tup (.str "is" :: l)) (.int 0) = some (.str "is") := by rw [gIx_tup, atI_0]; rfl
  have n1 : ¬ (((.str "is" :: l : List T).length : Nat) : Int) = 0 := by rw [List.length_cons]; omega
  have n2 : ¬ (((.str "is" :: l : List T).length : Nat) : Int) = 2 := by rw [List.length_cons]; omega
  refine pIfF (P := fun o => o = .rt _) (eOr_bl (a := false) (b := false) rfl fun _ => eOr_bl (a := false) (b := false) (eB_ok (eU_ok rfl rfl) rfl ((gEq_int _ _).trans (by rw [decide_eq_false n1]))) fun _ => eB_ok (eU_ok (eB_ok rfl rfl g0) rfl) rfl rfl) ?_
  refine pNx (P := fun o => o = .rt _) ?_
  refine pIfT (P := fun o => o = .rt _) (eB_ok (eB_ok rfl rfl g0) rfl e_is_is) ?_
  exact pRetS (P := fun o => o = .rt _) (eAnd_bl (a := false) (b := false) (eB_ok (eU_ok rfl rfl) rfl ((gEq_int _ _).trans (by rw [decide_eq_false n2]))) fun z => by cases z) rfl
theorem rule_not {p q : Pg} {t : T} (ht : pln t = true) (hn : ∀ l, t ≠ .tup l) : m_is_rule [p.t, q.t, t] = .ok (.bl false) := by
  refine fDef_rt ?_
  show b_is_rule [.sh p.t, .sh q.t, .sh t, .un, .un, .un, .un, .un, .un] = _
  unfold b_is_rule
  generalize m_is_worth = F1 at *
  generalize m_whole = F2 at *
  have c : (eOr (eB (gTyIs true) (eU gType (eW 2)) (eC (.ty "tuple"))) (eOr (eB gEq (eU gLen (eW 2)) (eC (.int 0))) (eB (gTyIs true) (eU gType (eB gIx (eW 2) (eC (.int 0)))) (eC (.ty "str"))))) [.sh p.t, .sh q.t, .sh t, .un, .un, .un, .un, .un, .un] = .ok (.bl true) := by
    cases t <;> first | (cases ht; done) | (exact absurd rfl (hn _)) | rfl
  refine pIfT (P := fun o => o = .rt _) c ?_
  exact pRetS (P := fun o => o = .rt _) rfl rfl
theorem rule_at {p q : Pg} : m_is_rule [p.t, q.t, .tup [.str "at", .int 0]] = .ok (.bl false) := by
  refine fDef_rt ?_
  show b_is_rule [.sh p.t, .sh q.t, .sh (.tup [.str "at", .int 0]), .un, .un, .un, .un, .un, .un] = _
  unfold b_is_rule
  generalize m_is_worth = F1 at *
  generalize m_whole = F2 at *
  refine pIfF (P := fun o => o = .rt _) (eOr_bl (a := false) (b := false) rfl fun _ => eOr_bl (a := false) (b := false) (eB_ok rfl rfl (gEq_int _ _)) fun _ => rfl) ?_
  refine pNx (P := fun o => o = .rt _) ?_
  refine pIfF (P := fun o => o = .rt _) (eB_ok (eB_ok rfl rfl (show gIx (.tup [.str "at", .int 0]) (.int 0) = some (.str "at") from rfl)) rfl e_at_is) ?_
  refine pNx (P := fun o => o = .rt _) ?_
  refine pIfT (P := fun o => o = .rt _) (eOr_bl (a := true) (b := true) (eB_ok (eB_ok rfl rfl (show gIx (.tup [.str "at", .int 0]) (.int 0) = some (.str "at") from rfl)) rfl n_at_by) fun z => by cases z) ?_
  exact pRetS (P := fun o => o = .rt _) rfl rfl
theorem rule_by_lst {p q : Pg} {x : T} {ns : List T} {c : Bool} (hx : m_whole [x, .int 0, .int ((p.B : Nat) - 1)] = .ok (.bl c)) : m_is_rule [p.t, q.t, .tup [.str "by", x, .lst ns]] = .ok (.bl false) := by
  refine fDef_rt ?_
  show b_is_rule [.sh p.t, .sh q.t, .sh (.tup [.str "by", x, .lst ns]), .un, .un, .un, .un, .un, .un] = _
  unfold b_is_rule
  generalize m_is_worth = F1 at *
  generalize m_whole = F2 at *
  refine pIfF (P := fun o => o = .rt _) (eOr_bl (a := false) (b := false) rfl fun _ => eOr_bl (a := false) (b := false) (eB_ok rfl rfl (gEq_int _ _)) fun _ => rfl) ?_
  refine pNx (P := fun o => o = .rt _) ?_
  refine pIfF (P := fun o => o = .rt _) (eB_ok (eB_ok rfl rfl (show gIx (.tup [.str "by", x, .lst ns]) (.int 0) = some (.str "by") from rfl)) rfl e_by_is) ?_
  refine pNx (P := fun o => o = .rt _) ?_
  refine pIfF (P := fun o => o = .rt _) (eOr_bl (a := false) (b := false) (eB_ok (eB_ok rfl rfl (show gIx (.tup [.str "by", x, .lst ns]) (.int 0) = some (.str "by") from rfl)) rfl n_by_by) fun _ => eB_ok (eU_ok rfl rfl) rfl (gNe_int _ _)) ?_
  refine pNx (P := fun o => o = .rt _) ?_
  refine pAsg (P := fun o => o = .rt _) (ρ' := [.sh p.t, .sh q.t, .sh (.tup [.str "by", x, .lst ns]), .sh (.int p.B), .sh (.int p.M), .sh (.lst (p.rows.map Rw.t)), .un, .un, .un]) rfl rfl ?_
  refine pAsg (P := fun o => o = .rt _) (ρ' := [.sh p.t, .sh q.t, .sh (.tup [.str "by", x, .lst ns]), .sh (.int p.B), .sh (.int p.M), .sh (.str "by"), .sh x, .sh (.lst ns), .un]) rfl rfl ?_
  refine pIfT (P := fun o => o = .rt _) (f := sRet (eC (.bl false))) ((eOr_bl (a := !c) (b := true) (eNot_bl (eCall_ok (aCons_ok rfl (aCons_ok rfl (aCons_ok (eB_ok rfl rfl rfl) rfl))) rfl hx)) fun _ => eOr_bl (a := true) (b := true) (eB_ok rfl rfl rfl) fun z => by cases z).trans (by cases c <;> rfl)) ?_
  exact pRetS (P := fun o => o = .rt _) rfl rfl
theorem is_rule_ok {p q : Pg} {r : Rl} (hp : p.ok) (h : r.ok p q) : m_is_rule [p.t, q.t, r.t] = .ok (.bl true) := by
  cases r with
  | is v => exact rule_is (isworth_oN h)
  | by_ b ns =>
    obtain ⟨h1, h2, h3⟩ := h
    have hw : ∀ t ∈ ns.map oN, m_is_worth [q.t, t] = .ok (.bl true) := fun t m => by
      obtain ⟨v, mv, rfl⟩ := List.mem_map.mp m
      exact isworth_oN fun n e => h3 n (by rw [← e]; exact mv)
    have e := rule_by (p := p) (q := q) (x := .int (b : Nat)) (ns := ns.map oN) (wh_box h1) (by rw [List.length_map]; exact le_big9 (by have := hp.m4; omega)) fun t m => ⟨true, hw t m⟩
    have e1 : ((ns.map oN).all fun t => bOf (m_is_worth [q.t, t])) = true := List.all_eq_true.mpr fun t m => by rw [hw t m]; rfl
    rw [e1, List.length_map, decide_eq_true h2] at e
    exact e
theorem pick_of {α : Type} {P : α → Prop} {L : List α} (h : ∀ t ∈ L, P t) {k : Nat} (hk : k < L.length) : ∃ t, L[k]? = some t ∧ P t := ⟨L[k], List.getElem?_eq_getElem hk, h _ (List.getElem_mem hk)⟩
theorem flat_rep (x : T) (k : Nat) : (List.replicate k [x]).flatten = List.replicate k x := by
  induction k with
  | zero => rfl
  | succ k ih => rw [List.replicate_succ, List.flatten_cons, ih]; rfl
theorem gMul_rep (x : T) {k : Nat} (h : k ≤ 1000) : gMul (.lst [x]) (.int (k : Nat)) = some (.lst (List.replicate k x)) := by
  have h1 : ((k : Nat) : Int) ≤ 100000 := Int.ofNat_le.mpr (le_big h)
  have h2 : 1 * ((k : Nat) : Int).toNat ≤ 100000 := by rw [Int.toNat_natCast, Nat.one_mul]; exact le_big h
  have h3 : (-100000 : Int) ≤ (k : Nat) := by omega
  show (if ((k : Nat) : Int) ≤ 100000 ∧ 1 * ((k : Nat) : Int).toNat ≤ 100000 ∧ (-100000 : Int) ≤ (k : Nat) then some (T.lst (List.replicate ((k : Nat) : Int).toNat [x]).flatten) else none) = _
  rw [if_pos ⟨h1, h2, h3⟩, Int.toNat_natCast, flat_rep]
theorem gAdd_tup {a b : List T} (h : a.length + b.length ≤ 1000) : gAdd (.tup a) (.tup b) = some (.tup (a ++ b)) := by
  show (if a.length + b.length ≤ 100000 then some (T.tup (a ++ b)) else none) = _
  rw [if_pos (le_big h)]
theorem gAdd_lst {a b : List T} (h : a.length + b.length ≤ 1000) : gAdd (.lst a) (.lst b) = some (.lst (a ++ b)) := by
  show (if a.length + b.length ≤ 100000 then some (T.lst (a ++ b)) else none) = _
  rw [if_pos (le_big h)]
/-! ### places -/
theorem place_gen {p q : Pg} {x y : T} {rs : List T} {c d : Bool} (hx : m_whole [x, .int 0, .int ((p.rows.length : Nat) - 1)] = .ok (.bl c)) (hy : m_whole [y, .int 0, .int ((q.rows.length : Nat) - 1)] = .ok (.bl d)) (hl : rs.length ≤ 99999) (hn : ∀ t ∈ rs, ∃ b, m_is_rule [p.t, q.t, t] = .ok (.bl b)) :
    m_is_place [p.t, q.t, .tup [x, y, .tup rs]] = .ok (.bl (c && (d && (decide (rs.length = q.B) && rs.all fun t => bOf (m_is_rule [p.t, q.t, t]))))) := by
  refine fDef_rt ?_
  show b_is_place [.sh p.t, .sh q.t, .sh (.tup [x, y, .tup rs]), .un, .un, .un, .un] = _
  have hal : eU gAll (eComp (iIt (eV 5)) (.nm 6) [6] (eC (.bl true)) (eCall 3 m_is_rule (aCons (eV 0) (aCons (eV 1) (aCons (eV 6) aNil))))) [.sh p.t, .sh q.t, .sh (.tup [x, y, .tup rs]), .sh x, .sh y, .sh (.tup rs), .un] = .ok (.bl (rs.all fun t => bOf (m_is_rule [p.t, q.t, t]))) :=
    allF (F := fun t => m_is_rule [p.t, q.t, t]) rfl hl (fun t => eCall_ok (aCons_ok rfl (aCons_ok rfl (aCons_ok rfl rfl))) rfl rfl) hn
  have p2 : gIx p.t (.int 2) = some (.lst (p.rows.map Rw.t)) := rfl
  have q2 : gIx q.t (.int 2) = some (.lst (q.rows.map Rw.t)) := rfl
  have q0 : gIx q.t (.int 0) = some (.int q.B) := rfl
  have pl : gLen (.lst (p.rows.map Rw.t)) = some (.int (p.rows.length : Nat)) := gLen_map _ _
  have ql : gLen (.lst (q.rows.map Rw.t)) = some (.int (q.rows.length : Nat)) := gLen_map _ _
  have hnl : gLen (.tup rs) = some (.int (rs.length : Nat)) := rfl
  unfold b_is_place
  generalize (rs.all fun t => bOf (m_is_rule [p.t, q.t, t])) = A at *
  generalize m_is_rule = F1 at *
  generalize m_whole = F2 at *
  refine pIfF (P := fun o => o = .rt _) (eOr_bl (a := false) (b := false) rfl fun _ => eB_ok (eU_ok rfl rfl) rfl (gNe_int _ _)) ?_
  refine pNx (P := fun o => o = .rt _) ?_
  refine pAsg (P := fun o => o = .rt _) (ρ' := [.sh p.t, .sh q.t, .sh (.tup [x, y, .tup rs]), .sh x, .sh y, .sh (.tup rs), .un]) rfl rfl ?_
  refine pIfS (P := fun o => o = .rt _) (b := !c || !d) (eOr_bl (eNot_bl (eCall_ok (aCons_ok rfl (aCons_ok rfl (aCons_ok (eB_ok (eU_ok (eB_ok rfl rfl p2) pl) rfl rfl) rfl))) rfl hx)) fun _ => eNot_bl (eCall_ok (aCons_ok rfl (aCons_ok rfl (aCons_ok (eB_ok (eU_ok (eB_ok rfl rfl q2) ql) rfl rfl) rfl))) rfl hy)) (fun z => ?_) (fun z => ?_)
  · refine pRetS (P := fun o => o = .rt _) rfl ?_
    cases c <;> cases d <;> first | rfl | cases z
  · have hc : c = true := by cases c; cases z; rfl
    have hd : d = true := by subst hc; cases d; cases z; rfl
    subst hc
    subst hd
    refine pNx (P := fun o => o = .rt _) ?_
    have e9 : decide (((rs.length : Nat) : Int) = (q.B : Nat)) = decide (rs.length = q.B) := by
      by_cases z : rs.length = q.B
      · rw [decide_eq_true z, decide_eq_true (by omega)]
      · rw [decide_eq_false z, decide_eq_false (by omega)]
    refine pIfS (P := fun o => o = .rt _) (b := false || !decide (rs.length = q.B)) (eOr_bl rfl fun _ => eB_ok (eU_ok rfl hnl) (eB_ok rfl rfl q0) (by rw [gNe_int, e9])) (fun z => ?_) (fun z => ?_)
    · refine pRetS (P := fun o => o = .rt _) rfl ?_
      generalize decide (rs.length = q.B) = d at *
      cases d <;> first | rfl | cases z
    · refine pNx (P := fun o => o = .rt _) ?_
      refine pRet (P := fun o => o = .rt _) hal ?_
      generalize decide (rs.length = q.B) = d at *
      cases d <;> first | rfl | cases z
theorem place_lst {p q : Pg} {x y : T} {rs : List T} {c d : Bool} (hx : m_whole [x, .int 0, .int ((p.rows.length : Nat) - 1)] = .ok (.bl c)) (hy : m_whole [y, .int 0, .int ((q.rows.length : Nat) - 1)] = .ok (.bl d)) : m_is_place [p.t, q.t, .tup [x, y, .lst rs]] = .ok (.bl false) := by
  refine fDef_rt ?_
  show b_is_place [.sh p.t, .sh q.t, .sh (.tup [x, y, .lst rs]), .un, .un, .un, .un] = _
  have p2 : gIx p.t (.int 2) = some (.lst (p.rows.map Rw.t)) := rfl
  have q2 : gIx q.t (.int 2) = some (.lst (q.rows.map Rw.t)) := rfl
  have q0 : gIx q.t (.int 0) = some (.int q.B) := rfl
  have pl : gLen (.lst (p.rows.map Rw.t)) = some (.int (p.rows.length : Nat)) := gLen_map _ _
  have ql : gLen (.lst (q.rows.map Rw.t)) = some (.int (q.rows.length : Nat)) := gLen_map _ _
  unfold b_is_place
  generalize m_is_rule = F1 at *
  generalize m_whole = F2 at *
  refine pIfF (P := fun o => o = .rt _) (eOr_bl (a := false) (b := false) rfl fun _ => eB_ok (eU_ok rfl rfl) rfl (gNe_int _ _)) ?_
  refine pNx (P := fun o => o = .rt _) ?_
  refine pAsg (P := fun o => o = .rt _) (ρ' := [.sh p.t, .sh q.t, .sh (.tup [x, y, .lst rs]), .sh x, .sh y, .sh (.lst rs), .un]) rfl rfl ?_
  refine pIfS (P := fun o => o = .rt _) (b := !c || !d) (eOr_bl (eNot_bl (eCall_ok (aCons_ok rfl (aCons_ok rfl (aCons_ok (eB_ok (eU_ok (eB_ok rfl rfl p2) pl) rfl rfl) rfl))) rfl hx)) fun _ => eNot_bl (eCall_ok (aCons_ok rfl (aCons_ok rfl (aCons_ok (eB_ok (eU_ok (eB_ok rfl rfl q2) ql) rfl rfl) rfl))) rfl hy)) (fun z => ?_) (fun z => ?_)
  · exact pRetS (P := fun o => o = .rt _) rfl rfl
  · refine pNx (P := fun o => o = .rt _) ?_
    refine pIfT (P := fun o => o = .rt _) (eOr_bl (a := true) (b := true) rfl fun z => by cases z) ?_
    exact pRetS (P := fun o => o = .rt _) rfl rfl
theorem place_not {p q : Pg} {t : T} (ht : pln t = true) (hn : ∀ l, t ≠ .tup l) : m_is_place [p.t, q.t, t] = .ok (.bl false) := by
  refine fDef_rt ?_
  show b_is_place [.sh p.t, .sh q.t, .sh t, .un, .un, .un, .un] = _
  unfold b_is_place
  have c : (eOr (eB (gTyIs true) (eU gType (eW 2)) (eC (.ty "tuple"))) (eB gNe (eU gLen (eW 2)) (eC (.int 3)))) [.sh p.t, .sh q.t, .sh t, .un, .un, .un, .un] = .ok (.bl true) := by
    cases t <;> first | (cases ht; done) | (exact absurd rfl (hn _)) | rfl
  refine pIfT (P := fun o => o = .rt _) c ?_
  exact pRetS (P := fun o => o = .rt _) rfl rfl
theorem place_len {p q : Pg} {l : List T} (h : l.length ≠ 3) : m_is_place [p.t, q.t, .tup l] = .ok (.bl false) := by
  refine fDef_rt ?_
  show b_is_place [.sh p.t, .sh q.t, .sh (.tup l), .un, .un, .un, .un] = _
  unfold b_is_place
  have n : ¬ ((l.length : Nat) : Int) = 3 := by omega
  have hnl : gLen (.tup l) = some (.int (l.length : Nat)) := rfl
  refine pIfT (P := fun o => o = .rt _) (eOr_bl (a := false) (b := true) rfl fun _ => eB_ok (eU_ok rfl hnl) rfl (by rw [gNe_int, decide_eq_false n]; rfl)) ?_
  exact pRetS (P := fun o => o = .rt _) rfl rfl
theorem wh_in {n N : Nat} (h : n < N) : m_whole [.int (n : Nat), .int 0, .int ((N : Nat) - 1)] = .ok (.bl true) := by
  rw [whole_eq _ _ _ rfl]
  simp only [wh]
  rw [decide_eq_true (by omega : (0 : Int) ≤ (n : Nat)), decide_eq_true (by omega : ((n : Nat) : Int) ≤ (N : Nat) - 1)]
  rfl
theorem is_place_ok {p q : Pg} {x : Pl} (hp : p.ok) (hq : q.ok) (h : x.ok p q) : m_is_place [p.t, q.t, x.t] = .ok (.bl true) := by
  have hr : ∀ t ∈ x.rules.map Rl.t, m_is_rule [p.t, q.t, t] = .ok (.bl true) := fun t m => by
    obtain ⟨r, mr, rfl⟩ := List.mem_map.mp m
    exact is_rule_ok hp (h.rules.ok r mr)
  have e := place_gen (p := p) (q := q) (x := .int (x.row : Nat)) (y := .int (x.other : Nat)) (rs := x.rules.map Rl.t) (wh_in h.row) (wh_in h.other) (by rw [List.length_map, h.rules.len]; exact le_big9 (by have := hq.b3; omega)) fun t m => ⟨true, hr t m⟩
  have e1 : ((x.rules.map Rl.t).all fun t => bOf (m_is_rule [p.t, q.t, t])) = true := List.all_eq_true.mpr fun t m => by rw [hr t m]; rfl
  rw [e1, List.length_map, decide_eq_true h.rules.len] at e
  exact e
/-! ### odd places -/
def is0 : T := .tup [.str "is", .int 0]
def rls (q : Pg) : List T := List.replicate q.B is0
theorem rls_len (q : Pg) : (rls q).length = q.B := List.length_replicate ..
theorem is0_ok (p q : Pg) : m_is_rule [p.t, q.t, is0] = .ok (.bl true) := by
  have e := isworth_int q 0
  rw [decide_eq_true (by omega : (0 : Int) ≤ 0), decide_eq_true (by omega : (0 : Int) ≤ (q.M : Nat))] at e
  exact rule_is e
theorem rls_ok (p q : Pg) : ∀ t ∈ rls q, m_is_rule [p.t, q.t, t] = .ok (.bl true) := fun t m => by
  rw [List.eq_of_mem_replicate m]
  exact is0_ok p q
/-! ### all the places -/
theorem places_not {p q : Pg} {t : T} (ht : pln t = true) (hn : ∀ l, t ≠ .lst l) : m_is_places [p.t, q.t, t] = .ok (.bl false) := by
  refine fDef_rt ?_
  show b_is_places [.sh p.t, .sh q.t, .sh t, .un] = _
  unfold b_is_places
  have c : (eOr (eB (gTyIs true) (eU gType (eW 2)) (eC (.ty "list"))) (eB gGt (eU gLen (eW 2)) (eC (.int 20)))) [.sh p.t, .sh q.t, .sh t, .un] = .ok (.bl true) := by
    cases t <;> first | (cases ht; done) | (exact absurd rfl (hn _)) | rfl
  refine pIfT (P := fun o => o = .rt _) c ?_
  exact pRetS (P := fun o => o = .rt _) rfl rfl
theorem c_len {p q : Pg} {l : List T} : (eOr (eB (gTyIs true) (eU gType (eW 2)) (eC (.ty "list"))) (eB gGt (eU gLen (eW 2)) (eC (.int 20)))) [.sh p.t, .sh q.t, .sh (.lst l), .un] = .ok (.bl (decide (20 < l.length))) := by
  have hnl : gLen (.lst l) = some (.int (l.length : Nat)) := rfl
  have e : (decide ((20 : Int) < ((l.length : Nat) : Int))) = decide (20 < l.length) := by
    by_cases z : 20 < l.length
    · rw [decide_eq_true z, decide_eq_true (by omega)]
    · rw [decide_eq_false z, decide_eq_false (by omega)]
  have g : gGt (.int (l.length : Nat)) (.int 20) = some (.bl (decide ((20 : Int) < ((l.length : Nat) : Int)))) := rfl
  rw [e] at g
  exact (eOr_bl (a := false) (b := decide (20 < l.length)) rfl fun _ => eB_ok (eU_ok rfl hnl) rfl g).trans (by rw [Bool.false_or])
theorem places_long {p q : Pg} {l : List T} (h : 20 < l.length) : m_is_places [p.t, q.t, .lst l] = .ok (.bl false) := by
  refine fDef_rt ?_
  show b_is_places [.sh p.t, .sh q.t, .sh (.lst l), .un] = _
  unfold b_is_places
  refine pIfT (P := fun o => o = .rt _) (c_len.trans (by rw [decide_eq_true h])) ?_
  exact pRetS (P := fun o => o = .rt _) rfl rfl
theorem c_all {p q : Pg} {l : List T} (hl : l.length ≤ 20) (hn : ∀ t ∈ l, ∃ b, m_is_place [p.t, q.t, t] = .ok (.bl b)) : eU gAll (eComp (iIt (eV 2)) (.nm 3) [3] (eC (.bl true)) (eCall 3 m_is_place (aCons (eV 0) (aCons (eV 1) (aCons (eV 3) aNil))))) [.sh p.t, .sh q.t, .sh (.lst l), .un] = .ok (.bl (l.all fun t => bOf (m_is_place [p.t, q.t, t]))) :=
  allF (F := fun t => m_is_place [p.t, q.t, t]) rfl (le_big9 (by omega)) (fun t => eCall_ok (aCons_ok rfl (aCons_ok rfl (aCons_ok rfl rfl))) rfl rfl) hn
theorem places_odd {p q : Pg} {l : List T} (hn : ∀ t ∈ l, ∃ b, m_is_place [p.t, q.t, t] = .ok (.bl b)) {x : T} (hx : x ∈ l) (hf : m_is_place [p.t, q.t, x] = .ok (.bl false)) : m_is_places [p.t, q.t, .lst l] = .ok (.bl false) := by
  by_cases h : 20 < l.length
  · exact places_long h
  · have hl : l.length ≤ 20 := by omega
    have e := c_all (p := p) (q := q) hl hn
    have e1 : (l.all fun t => bOf (m_is_place [p.t, q.t, t])) = false := by
      rw [List.all_eq_false]
      exact ⟨x, hx, by rw [hf]; decide⟩
    rw [e1] at e
    refine fDef_rt ?_
    show b_is_places [.sh p.t, .sh q.t, .sh (.lst l), .un] = _
    unfold b_is_places
    refine pIfF (P := fun o => o = .rt _) (c_len.trans (by rw [decide_eq_false h])) ?_
    refine pNx (P := fun o => o = .rt _) ?_
    refine pIfT (P := fun o => o = .rt _) (eNot_bl e) ?_
    exact pRetS (P := fun o => o = .rt _) rfl rfl
theorem ints_map {α : Type} (f : α → Int) (l : List α) : ints? (l.map fun a => T.int (f a)) = some (l.map f) := by
  induction l with
  | nil => rfl
  | cons a l ih =>
    show (ints? (l.map fun a => T.int (f a))).map (f a :: ·) = _
    rw [ih]
    rfl
def rowI (x : Pl) : Int := (x.row : Nat)
theorem places_good {p q : Pg} {L : List Pl} (hp : p.ok) (hq : q.ok) (hl : L.length ≤ 20) (hL : ∀ x ∈ L, x.ok p q) : m_is_places [p.t, q.t, .lst (L.map Pl.t)] = .ok (.bl (decide ((nub (L.map rowI)).length = L.length))) := by
  have hk : ∀ t ∈ L.map Pl.t, m_is_place [p.t, q.t, t] = .ok (.bl true) := fun t m => by
    obtain ⟨x, mx, rfl⟩ := List.mem_map.mp m
    exact is_place_ok hp hq (hL x mx)
  have e := c_all (p := p) (q := q) (l := L.map Pl.t) (by rw [List.length_map]; exact hl) fun t m => ⟨true, hk t m⟩
  have e1 : ((L.map Pl.t).all fun t => bOf (m_is_place [p.t, q.t, t])) = true := List.all_eq_true.mpr fun t m => by rw [hk t m]; rfl
  rw [e1] at e
  refine fDef_rt ?_
  show b_is_places [.sh p.t, .sh q.t, .sh (.lst (L.map Pl.t)), .un] = _
  have es : (eSetLen (iIt (eV 2)) (.nm 3) [3] (eC (.bl true)) (eB gIx (eW 3) (eC (.int 0)))) [.sh p.t, .sh q.t, .sh (.lst (L.map Pl.t)), .un] = .ok (.int ((nub (L.map rowI)).length : Nat)) := by
    have ec := compF_filter (i := 3) (fc := eC (.bl true)) (fe := eB gIx (eW 3) (eC (.int 0))) (ρ := wipeE [.sh p.t, .sh q.t, .sh (.lst (L.map Pl.t)), .un] [3]) (u := Pl.t) (f := fun x => .int (rowI x)) (p := fun _ => true) (l := L) fun x m => ⟨rfl, fun _ => rfl⟩
    unfold eSetLen
    show (Res.bind (compF (.nm 3) (eC (.bl true)) (eB gIx (eW 3) (eC (.int 0))) (L.map Pl.t) (wipeE [.sh p.t, .sh q.t, .sh (.lst (L.map Pl.t)), .un] [3])) fun ts => match ints? ts with | some ks => if ts.length ≤ 1000 then Res.ok (T.int (nub ks).length) else .bad | none => .bad) = _
    rw [ec, List.filter_eq_self.mpr fun _ _ => rfl]
    show (match ints? (L.map fun x => T.int (rowI x)) with | some ks => if (L.map fun x => T.int (rowI x)).length ≤ 1000 then Res.ok (T.int (nub ks).length) else .bad | none => .bad) = _
    rw [ints_map]
    show (if (L.map fun x => T.int (rowI x)).length ≤ 1000 then Res.ok (T.int (nub (L.map rowI)).length) else .bad) = _
    rw [if_pos (by rw [List.length_map]; omega)]
  unfold b_is_places
  refine pIfF (P := fun o => o = .rt _) (c_len.trans (by rw [List.length_map, decide_eq_false (by omega)])) ?_
  refine pNx (P := fun o => o = .rt _) ?_
  refine pIfF (P := fun o => o = .rt _) (eNot_bl e) ?_
  refine pNx (P := fun o => o = .rt _) ?_
  refine pRet (P := fun o => o = .rt _) (eB_ok es (eU_ok rfl (gLen_map _ _)) (gEq_int _ _)) ?_
  have e9 : decide ((((nub (L.map rowI)).length : Nat) : Int) = (L.length : Nat)) = decide ((nub (L.map rowI)).length = L.length) := by
    by_cases z : (nub (L.map rowI)).length = L.length
    · rw [decide_eq_true z, decide_eq_true (by omega)]
    · rw [decide_eq_false z, decide_eq_false (by omega)]
  rw [e9]
theorem nub_le (ks : List Int) : (nub ks).length ≤ ks.length := by
  have h : ∀ (l a : List Int), (l.foldl (fun a k => if k ∈ a then a else a ++ [k]) a).length ≤ a.length + l.length := by
    intro l
    induction l with
    | nil => intro a; exact Nat.le_refl _
    | cons k l ih =>
      intro a
      rw [List.foldl_cons]
      refine Nat.le_trans (ih _) ?_
      split
      · rw [List.length_cons]; omega
      · rw [List.length_append, List.length_cons]; show a.length + 1 + l.length ≤ a.length + (l.length + 1); omega
  have := h ks []
  rw [List.length_nil, Nat.zero_add] at this
  exact this
theorem nub_nodup {ks : List Int} (h : ks.Nodup) : nub ks = ks := by
  have g : ∀ (l a : List Int), (a ++ l).Nodup → l.foldl (fun a k => if k ∈ a then a else a ++ [k]) a = a ++ l := by
    intro l
    induction l with
    | nil => intro a _; rw [List.append_nil]; rfl
    | cons k l ih =>
      intro a h
      rw [List.foldl_cons, if_neg, ih (a ++ [k]) (by rw [List.append_assoc]; exact h), List.append_assoc]
      · rfl
      · intro m
        exact (List.nodup_append.mp h).2.2 k m k List.mem_cons_self rfl
  exact g ks [] h
theorem row_ints {ps : List Pl} (h : (ps.map Pl.row).Nodup) : (ps.map rowI).Nodup := by
  have e : (ps.map rowI) = (ps.map Pl.row).map fun n => ((n : Nat) : Int) := by rw [List.map_map]; rfl
  rw [e]
  exact List.Pairwise.map _ (fun a b h q => h (by omega)) h
theorem is_places_ok {p q : Pg} {ps : List Pl} (hp : p.ok) (hq : q.ok) (h : Pls p q ps) : m_is_places [p.t, q.t, .lst (ps.map Pl.t)] = .ok (.bl true) := by
  rw [places_good hp hq (by have := h.len; have := hp.n20; omega) h.ok, nub_nodup (row_ints h.nd), List.length_map, decide_eq_true rfl]
def pl0 (q : Pg) : Pl := ⟨0, 0, List.replicate q.B (.is (some 0))⟩
theorem pl0_ok {p q : Pg} (hp : p.ok) (hq : q.ok) : (pl0 q).ok p q :=
  ⟨hp.n1, hq.n1, ⟨List.length_replicate .., fun r m => by rw [List.eq_of_mem_replicate m]; exact fun n e => by cases e; exact Nat.zero_le _⟩⟩
theorem pl0_t (q : Pg) : (pl0 q).t = .tup [.int 0, .int 0, .tup (rls q)] := by
  have e : (List.replicate q.B (Rl.is (some 0))).map Rl.t = rls q := by rw [List.map_replicate]; rfl
  show T.tup [.int 0, .int 0, .tup ((List.replicate q.B (Rl.is (some 0))).map Rl.t)] = _
  rw [e]
theorem places_twice {p q : Pg} {ps : List Pl} (hp : p.ok) (hq : q.ok) (h : Pls p q ps) : m_is_places [p.t, q.t, .lst ((ps ++ [pl0 q, pl0 q]).map Pl.t)] = .ok (.bl false) := by
  by_cases hl : 20 < (ps ++ [pl0 q, pl0 q]).length
  · exact places_long (by rw [List.length_map]; exact hl)
  · rw [places_good hp hq (by omega) fun x m => by
      rcases List.mem_append.mp m with m | m
      · exact h.ok x m
      · simp only [List.mem_cons, List.not_mem_nil, or_false, or_self] at m
        rw [m]
        exact pl0_ok hp hq]
    rw [decide_eq_false]
    intro e
    have e1 : (ps ++ [pl0 q, pl0 q]).map rowI = (ps.map rowI ++ [0]) ++ [0] := by rw [List.map_append, List.append_assoc]; rfl
    rw [e1, nub_snoc, if_pos ((mem_nub _ _).mpr (by simp))] at e
    have := nub_le (ps.map rowI ++ [0])
    rw [List.length_append, List.length_map] at this
    rw [List.length_append] at e
    have e : (nub (ps.map rowI ++ [0])).length = ps.length + 2 := e
    have this : (nub (ps.map rowI ++ [0])).length ≤ ps.length + 1 := this
    omega
theorem need_places_ok {p q : Pg} {ps : List Pl} (hp : p.ok) (hq : q.ok) (h : Pls p q ps) : m_need_places [p.t, q.t, .lst (ps.map Pl.t)] = .ok (.lst (ps.map Pl.t)) := by
  have h1 := need_program_ok hp
  have h2 := need_program_ok hq
  have h3 := is_places_ok hp hq h
  refine defN_rt ?_
  show b_need_places [.sh p.t, .sh q.t, .sh (.lst (ps.map Pl.t))] = _
  unfold b_need_places
  generalize m_need_program = F1 at *
  generalize m_is_places = F2 at *
  refine pExp (P := fun o => o = .rt _) (eCall_ok (aCons_ok rfl rfl) rfl h1) ?_
  refine pExp (P := fun o => o = .rt _) (eCall_ok (aCons_ok rfl rfl) rfl h2) ?_
  refine pIfF (P := fun o => o = .rt _) (eNot_bl (eCall_ok (aCons_ok rfl (aCons_ok rfl (aCons_ok rfl rfl))) rfl h3)) ?_
  refine pNx (P := fun o => o = .rt _) ?_
  exact pRet (P := fun o => o = .rt _) (eU_ok rfl rfl) rfl
theorem need_places_no {p q : Pg} {t : T} (hp : p.ok) (hq : q.ok) (h : m_is_places [p.t, q.t, t] = .ok (.bl false)) : m_need_places [p.t, q.t, t] = .ex "BadPlaces" [] := by
  have h1 := need_program_ok hp
  have h2 := need_program_ok hq
  refine defN_ex (ρ := [.sh p.t, .sh q.t, .sh t]) ?_
  show b_need_places [.sh p.t, .sh q.t, .sh t] = _
  unfold b_need_places
  generalize m_need_program = F1 at *
  generalize m_is_places = F2 at *
  refine pExp (P := fun o => o = .ex _ _ _) (eCall_ok (aCons_ok rfl rfl) rfl h1) ?_
  refine pExp (P := fun o => o = .ex _ _ _) (eCall_ok (aCons_ok rfl rfl) rfl h2) ?_
  have cn : (eNot (eCall 3 F2 (aCons (eV 0) (aCons (eV 1) (aCons (eV 2) aNil))))) [.sh p.t, .sh q.t, .sh t] = .ok (.bl true) := eNot_bl (a := false) (eCall_ok (aCons_ok rfl (aCons_ok rfl (aCons_ok rfl rfl))) rfl h)
  unfold sSeq
  rw [sIf_t cn]
  rfl
theorem okRl (n : Nat) (r : Rl) : okD (n + 2) r.t = true := by
  cases r with
  | is v =>
    have e : okD (n + 1) (oN v) = true := by
      cases v with
      | none => exact okD_non _
      | some k => exact okD_int _ _
    have e2 : okD (n + 1) (.str "is") = true := by rw [okD_str]; decide +kernel
    show okD (n + 2) (.tup [.str "is", oN v]) = true
    rw [okD_tup, okDs_cons, okDs_cons, okDs_nil, e, e2]
    rfl
  | by_ b ns =>
    have e2 : okD (n + 1) (.str "by") = true := by rw [okD_str]; decide +kernel
    show okD (n + 2) (.tup [.str "by", .int b, .tup (ns.map oN)]) = true
    rw [okD_tup, okDs_cons, okDs_cons, okDs_cons, okDs_nil, e2, okD_int, okD_tup, okON]
    rfl
theorem ok_rules (n : Nat) (rs : List Rl) : okDs (n + 2) (rs.map Rl.t) = true := by
  induction rs with
  | nil => exact okDs_nil _
  | cons r rs ih => rw [List.map_cons, okDs_cons, okRl, ih]; rfl
theorem ok_places (n : Nat) (ps : List Pl) : okDs (n + 4) (ps.map Pl.t) = true := by
  induction ps with
  | nil => exact okDs_nil _
  | cons x ps ih =>
    rw [List.map_cons, okDs_cons, ih]
    show (okD (n + 4) (.tup [.int x.row, .int x.other, .tup (x.rules.map Rl.t)]) && true) = true
    rw [okD_tup, okDs_cons, okDs_cons, okDs_cons, okDs_nil, okD_int, okD_int, okD_tup, ok_rules]
    rfl
theorem ok_plL (n : Nat) (ps : List Pl) : okD (n + 5) (.lst (ps.map Pl.t)) = true := by rw [okD_lst, ok_places]
end K08

namespace K08
open PySem PySem.Spec PyProof.Rows L2 Evl VS
/-! ### begins -/
def begL (M : Nat) : Nat → List (List Nat)
  | 0 => [[]]
  | n + 1 => (begL M n).flatMap fun l => (List.range (M + 1)).map fun k => l ++ [k]
theorem begL_len (M : Nat) : ∀ n, (begL M n).length = (M + 1) ^ n
  | 0 => rfl
  | n + 1 => by
    show ((begL M n).flatMap _).length = _
    rw [List.length_flatMap]
    simp only [List.length_map, List.length_range]
    rw [List.map_const', List.sum_replicate_nat, begL_len M n, Nat.pow_succ]
theorem begL_mem {M : Nat} : ∀ {n : Nat} {l : List Nat}, l ∈ begL M n ↔ l.length = n ∧ ∀ k ∈ l, k ≤ M
  | 0, l => by
    show l ∈ [[]] ↔ _
    rw [List.mem_singleton]
    constructor
    · rintro rfl; exact ⟨rfl, fun k m => by cases m⟩
    · rintro ⟨h, _⟩; exact List.eq_nil_of_length_eq_zero h
  | n + 1, l => by
    show l ∈ (begL M n).flatMap _ ↔ _
    rw [List.mem_flatMap]
    constructor
    · rintro ⟨a, ha, hl⟩
      obtain ⟨k, hk, rfl⟩ := List.mem_map.mp hl
      obtain ⟨h1, h2⟩ := begL_mem.mp ha
      refine ⟨by rw [List.length_append, h1]; rfl, fun x m => ?_⟩
      rcases List.mem_append.mp m with m | m
      · exact h2 x m
      · rw [List.mem_singleton.mp m]; have := List.mem_range.mp hk; omega
    · rintro ⟨h1, h2⟩
      have hne : l ≠ [] := fun z => by rw [z] at h1; cases h1
      refine ⟨l.dropLast, begL_mem.mpr ⟨by rw [List.length_dropLast]; omega, fun k m => h2 k ((List.dropLast_sublist l).subset m)⟩, List.mem_map.mpr ⟨l.getLast hne, List.mem_range.mpr ?_, List.dropLast_concat_getLast hne⟩⟩
      have := h2 _ (List.getLast_mem hne)
      omega
theorem begL_125 {p : Pg} (h : p.ok) {n : Nat} (hn : n ≤ p.B) : (begL p.M n).length ≤ 125 := by
  rw [begL_len]
  have h1 : (p.M + 1) ^ n ≤ 5 ^ n := Nat.pow_le_pow_left (by have := h.m4; omega) n
  have h2 : 5 ^ n ≤ 5 ^ 3 := Nat.pow_le_pow_right (by decide) (by have := h.b3; omega)
  exact Nat.le_trans h1 (Nat.le_trans h2 (by decide))
theorem flatL_map {α : Type} (l : List α) (f : α → List T) : flatL (l.map fun a => T.lst (f a)) = l.flatMap f := by
  unfold flatL
  rw [List.flatMap_map]
theorem eComp2_ok {α β : Type} {i j : Nat} {vs vs1 : List Nat} {fi fi1 : FI} {fe : FE} {ρ : Ev'} {u : α → T} {w : β → T} {f : α → β → T} {l : List α} {L : List β} (hi : fi ρ = .ok (l.map u)) (hl : l.length ≤ 1000) (hL : L.length ≤ 1000) (hn : (l.flatMap fun a => L.map (f a)).length ≤ 1000)
    (h : ∀ a ∈ l, fi1 ((wipeE ρ vs).set i (.sh (u a))) = .ok (L.map w) ∧ ∀ b ∈ L, fe ((wipeE ((wipeE ρ vs).set i (.sh (u a))) vs1).set j (.sh (w b))) = .ok (f a b)) :
    eComp2 fi (.nm i) vs fi1 (.nm j) vs1 fe ρ = .ok (.lst (l.flatMap fun a => L.map (f a))) := by
  have e1 : compF (.nm i) (eC (.bl true)) (eIn fi1 (.nm j) vs1 fe) (l.map u) (wipeE ρ vs) = .ok (l.map fun a => .lst (L.map (f a))) := by
    have z := compF_filter (i := i) (fc := eC (.bl true)) (fe := eIn fi1 (.nm j) vs1 fe) (ρ := wipeE ρ vs) (u := u) (f := fun a => .lst (L.map (f a))) (p := fun _ => true) (l := l) fun a m => ⟨rfl, fun _ => by
      obtain ⟨h1, h2⟩ := h a m
      have z := compF_filter (i := j) (fc := eC (.bl true)) (fe := fe) (ρ := wipeE ((wipeE ρ vs).set i (.sh (u a))) vs1) (u := w) (f := f a) (p := fun _ => true) (l := L) fun b mb => ⟨rfl, fun _ => h2 b mb⟩
      rw [List.filter_eq_self.mpr fun _ _ => rfl] at z
      unfold eIn
      rw [h1]
      show (Res.bind (compF (.nm j) (eC (.bl true)) fe (L.map w) (wipeE ((wipeE ρ vs).set i (.sh (u a))) vs1)) fun ts => if ts.length ≤ 99999 then Res.ok (T.lst ts) else .bad) = _
      rw [z]
      show (if (L.map (f a)).length ≤ 99999 then Res.ok (T.lst (L.map (f a))) else .bad) = _
      rw [if_pos (by rw [List.length_map]; exact le_big9 hL)]⟩
    rw [List.filter_eq_self.mpr fun _ _ => rfl] at z
    exact z
  unfold eComp2
  rw [hi]
  show (Res.bind (compF (.nm i) (eC (.bl true)) (eIn fi1 (.nm j) vs1 fe) (l.map u) (wipeE ρ vs)) fun ts => if ts.length ≤ 99999 ∧ (flatL ts).length ≤ 99999 then Res.ok (T.lst (flatL ts)) else .bad) = _
  rw [e1]
  show (if (l.map fun a => T.lst (L.map (f a))).length ≤ 99999 ∧ (flatL (l.map fun a => T.lst (L.map (f a)))).length ≤ 99999 then Res.ok (T.lst (flatL (l.map fun a => T.lst (L.map (f a))))) else .bad) = _
  rw [flatL_map, if_pos ⟨by rw [List.length_map]; exact le_big9 hl, le_big9 hn⟩]
theorem begL_next (M n : Nat) : (begL M (n + 1)).map numsT = (begL M n).flatMap fun l => (List.range (M + 1)).map fun k => T.tup (l.map (fun n => T.int (n : Nat)) ++ [.int (k : Nat)]) := by
  show ((begL M n).flatMap fun l => (List.range (M + 1)).map fun k => l ++ [k]).map numsT = _
  rw [List.map_flatMap]
  congr 1
  funext l
  rw [List.map_map]
  congr 1
  funext k
  show T.tup ((l ++ [k]).map fun n => T.int (n : Nat)) = _
  rw [List.map_append]
  rfl
theorem begins_ok {p : Pg} (h : p.ok) : m_begins [p.t] = .ok (.lst ((begL p.M p.B).map numsT)) := by
  have h1 := need_program_ok h
  refine defN_rt ?_
  show b_begins [.sh p.t, .un, .un, .un, .un, .un, .un] = _
  unfold b_begins
  generalize m_need_program = F at *
  have hb3 := h.b3
  have hm4 := h.m4
  refine pAsg (P := fun o => o = .rt _) (ρ' := [.sh p.t, .sh (.int p.B), .sh (.int p.M), .sh (.lst (p.rows.map Rw.t)), .un, .un, .un]) (eCall_ok (aCons_ok rfl rfl) rfl h1) rfl ?_
  refine pNew (P := fun o => o = .rt _) (eLst_ok (aCons_ok (eTup_ok rfl (by show 0 ≤ 1000; decide)) rfl) (by show 1 ≤ 1000; decide)) ?_
  simp only [List.set_cons_succ, List.set_cons_zero]
  refine pForR (P := fun o => o = .rt _) (N := p.B) (fun k ρ => ∃ x3 x5 x6, ρ = [.sh p.t, .sh (.int p.B), .sh (.int p.M), x3, .ow (.lst ((begL p.M k).map numsT)), x5, x6]) (iRg_ok rfl (by omega)) ⟨_, _, _, rfl⟩ ?_ ?_
  · rintro k hk ρ ⟨x3, x5, x6, rfl⟩
    simp only [List.set_cons_succ, List.set_cons_zero]
    have e := eComp2_ok (i := 5) (j := 6) (vs := [5, 6]) (vs1 := [6]) (fi := iIt (eV 4)) (fi1 := iRg (eB gAdd (eW 2) (eC (.int 1)))) (fe := eB gAdd (eW 5) (eTup (aCons (eV 6) aNil))) (ρ := [.sh p.t, .sh (.int p.B), .sh (.int p.M), .sh (.int (k : Nat)), .sh (.lst ((begL p.M k).map numsT)), x5, x6]) (u := numsT) (w := fun k : Nat => T.int (k : Nat)) (f := fun (l : List Nat) (k : Nat) => T.tup (l.map (fun n => T.int (n : Nat)) ++ [T.int (k : Nat)])) (l := begL p.M k) (L := List.range (p.M + 1))
      (iIt_lst rfl) (by have := begL_125 h (n := k) (by omega); omega) (by rw [List.length_range]; omega) (by rw [← begL_next, List.length_map]; have := begL_125 h (n := k + 1) (by omega); omega) fun a ha => ⟨iRg_ok (n := p.M + 1) (eB_ok rfl rfl rfl) (by omega), fun b hb => eB_ok rfl (eTup_ok (aCons_ok rfl rfl) (by show 1 ≤ 1000; decide)) (gAdd_tup (a := a.map fun n => T.int (n : Nat)) (b := [.int (b : Nat)]) (by
        rw [List.length_map, (begL_mem.mp ha).1]
        show k + 1 ≤ 1000
        omega))⟩
    rw [← begL_next] at e
    refine ⟨[.sh p.t, .sh (.int p.B), .sh (.int p.M), .sh (.int (k : Nat)), .ow (.lst ((begL p.M (k + 1)).map numsT)), x5, x6], ?_, _, _, _, rfl⟩
    show sNew 4 _ [.sh p.t, .sh (.int p.B), .sh (.int p.M), .sh (.int (k : Nat)), .sh (.lst ((begL p.M k).map numsT)), x5, x6] = _
    rw [sNew_ok e]
    rfl
  · rintro ρ ⟨x3, x5, x6, rfl⟩
    rfl
end K08

namespace K08
open PySem PySem.Spec PyProof.Rows L2 Evl VS
def tupK (l : List Nat) (k : Nat) : T := T.tup (l.map (fun n => T.int (n : Nat)) ++ [T.int (k : Nat)])
theorem law_begins_ok {p : Pg} (h : p.ok) : m_law_begins [p.t] = .ok (.lst ((begL p.M p.B).map numsT)) := by
  refine fDef_rt ?_
  show b_law_begins [.sh p.t, .un, .un, .un, .un, .un] = _
  unfold b_law_begins
  have hb3 := h.b3
  have hm4 := h.m4
  have p0 : gIx p.t (.int 0) = some (.int p.B) := rfl
  have p1 : gIx p.t (.int 1) = some (.int p.M) := rfl
  refine pSet (P := fun o => o = .rt _) (eLst_ok (aCons_ok (eTup_ok rfl (by show 0 ≤ 1000; decide)) rfl) (by show 1 ≤ 1000; decide)) ?_
  simp only [List.set_cons_succ, List.set_cons_zero]
  refine pForR (P := fun o => o = .rt _) (N := p.B) (fun k ρ => ∃ x2 x3 x4 x5, ρ = [.sh p.t, .sh (.lst ((begL p.M k).map numsT)), x2, x3, x4, x5]) (iRg_ok (eB_ok rfl rfl p0) (by omega)) ⟨_, _, _, _, rfl⟩ ?_ ?_
  · rintro k hk ρ ⟨x2, x3, x4, x5, rfl⟩
    simp only [List.set_cons_succ, List.set_cons_zero]
    refine pNew (P := GoodN _) (eLst_ok rfl (by show 0 ≤ 1000; decide)) ?_
    simp only [List.set_cons_succ, List.set_cons_zero]
    have hk125 := begL_125 h (n := k) (by omega)
    have hk1 := begL_125 h (n := k + 1) (by omega)
    have tot : ((begL p.M k).flatMap fun l => (List.range (p.M + 1)).map (tupK l)).length ≤ 125 := by
      have e := begL_next p.M k
      have e2 := congrArg List.length e
      rw [List.length_map] at e2
      exact e2 ▸ hk1
    refine pFor (P := GoodN _) (α := List Nat) (u := numsT) (fun r ρ => ∃ A x4 x5, begL p.M k = A ++ r ∧ ρ = [.sh p.t, .sh (.lst ((begL p.M k).map numsT)), .sh (.int (k : Nat)), .ow (.lst (A.flatMap fun l => (List.range (p.M + 1)).map (tupK l))), x4, x5]) (l := begL p.M k) (iIt_lst rfl) ⟨[], _, _, rfl, rfl⟩ ?_ ?_
    · rintro a r ρ ⟨A, x4, x5, e, rfl⟩
      have ha : a ∈ begL p.M k := by rw [e]; simp
      have la := (begL_mem.mp ha).1
      have tot2 : (A.flatMap fun l => (List.range (p.M + 1)).map (tupK l)).length + (p.M + 1) ≤ 125 := by
        rw [e, List.flatMap_append, List.length_append, List.flatMap_cons, List.length_append, List.length_map, List.length_range] at tot
        omega
      refine ⟨[.sh p.t, .sh (.lst ((begL p.M k).map numsT)), .sh (.int (k : Nat)), .ow (.lst (A.flatMap fun l => (List.range (p.M + 1)).map (tupK l))), .sh (numsT a), x5], rfl, .inl ?_⟩
      obtain ⟨ρ', f1, x5', f2⟩ := loop_range (i := 5) (body := sApp 3 (eB gAdd (eW 4) (eTup (aCons (eV 5) aNil)))) (N := p.M + 1) (fun j ρ => ∃ x5, ρ = [.sh p.t, .sh (.lst ((begL p.M k).map numsT)), .sh (.int (k : Nat)), .ow (.lst ((A.flatMap fun l => (List.range (p.M + 1)).map (tupK l)) ++ (List.range j).map (tupK a))), .sh (numsT a), x5]) 0
        [.sh p.t, .sh (.lst ((begL p.M k).map numsT)), .sh (.int (k : Nat)), .ow (.lst (A.flatMap fun l => (List.range (p.M + 1)).map (tupK l))), .sh (numsT a), x5] (List.range (p.M + 1)) rfl ⟨x5, by rw [List.range_zero, List.map_nil, List.append_nil]⟩ (by
          rintro j hj ρ ⟨y5, rfl⟩
          simp only [List.set_cons_succ, List.set_cons_zero]
          refine ⟨[.sh p.t, .sh (.lst ((begL p.M k).map numsT)), .sh (.int (k : Nat)), .ow (.lst ((A.flatMap fun l => (List.range (p.M + 1)).map (tupK l)) ++ (List.range (j + 1)).map (tupK a))), .sh (numsT a), .sh (.int (j : Nat))], ?_, _, rfl⟩
          rw [sApp_ok (t := tupK a j) rfl (eB_ok rfl (eTup_ok (aCons_ok rfl rfl) (by show 1 ≤ 1000; decide)) (gAdd_tup (a := a.map fun n => T.int (n : Nat)) (b := [.int (j : Nat)]) (by
            rw [List.length_map, la]
            show k + 1 ≤ 1000
            omega))) (lt_big (by rw [List.length_append, List.length_map, List.length_range]; omega)), List.range_succ (n := j), List.map_append, ← List.append_assoc]
          rfl) (Nat.zero_le _)
      subst f2
      refine ⟨_, sFor_ok (iRg_ok (n := p.M + 1) (eB_ok (eB_ok rfl rfl p1) rfl rfl) (by omega)) f1, A ++ [a], .sh (numsT a), x5', by rw [List.append_assoc]; exact e, ?_⟩
      rw [List.flatMap_append, List.flatMap_cons, List.flatMap_nil, List.append_nil]
    · rintro ρ ⟨A, x4, x5, e, rfl⟩
      rw [List.append_nil] at e
      refine ⟨[.sh p.t, .sh (.lst ((begL p.M (k + 1)).map numsT)), .sh (.int (k : Nat)), .sh (.lst ((begL p.M (k + 1)).map numsT)), x4, x5], ?_, _, _, _, _, rfl⟩
      rw [begL_next]
      conv => rhs; rw [e]
      rfl
  · rintro ρ ⟨x2, x3, x4, x5, rfl⟩
    exact pRet (P := fun o => o = .rt _) rfl rfl
end K08

namespace K08
open PySem PySem.Spec PyProof.Rows L2 Evl VS
/-! ### the word of a state -/
def wl (ps : List Pl) (s : Nat × List Nat) : Option Str := (ps.find? fun x => x.row == s.1).map fun x => if (turnN s.2 x.rules).isNone then "stuck" else "comes"
def RW (p : Pg) (ps : List Pl) : Nat → Option (Nat × List Nat) → Option Str
  | 0, _ => none
  | _ + 1, none => some "over"
  | n + 1, some s => match wl ps s with
    | some w => some w
    | none => RW p ps n (nxt p s)
theorem RW_mono {p : Pg} {ps : List Pl} {w : Str} : ∀ {n : Nat} {o : Option (Nat × List Nat)}, RW p ps n o = some w → RW p ps (n + 1) o = some w
  | 0, _, h => by cases h
  | n + 1, none, h => h
  | n + 1, some s, h => by
    unfold RW at h ⊢
    cases e : wl ps s with
    | some v => rw [e] at h; exact h
    | none => rw [e] at h; exact RW_mono h
theorem RW_add {p : Pg} {ps : List Pl} {w : Str} {n : Nat} {o : Option (Nat × List Nat)} (h : RW p ps n o = some w) : ∀ k, RW p ps (n + k) o = some w
  | 0 => h
  | k + 1 => RW_mono (RW_add h k)
def Wd (p : Pg) (ps : List Pl) (o : Option (Nat × List Nat)) (w : Str) : Prop := (∃ n, RW p ps n o = some w) ∨ (w = "missed" ∧ ∀ n, RW p ps n o = none)
theorem Wd_uniq {p : Pg} {ps : List Pl} {o : Option (Nat × List Nat)} {v w : Str} (h : Wd p ps o v) (k : Wd p ps o w) : v = w := by
  rcases h with ⟨n, h⟩ | ⟨rfl, h⟩
  · rcases k with ⟨m, k⟩ | ⟨rfl, k⟩
    · have a := RW_add h m
      have b := RW_add k n
      rw [Nat.add_comm] at b
      rw [a] at b
      exact Option.some.inj b
    · rw [k n] at h; cases h
  · rcases k with ⟨m, k⟩ | ⟨rfl, k⟩
    · rw [h m] at k; cases k
    · rfl
theorem Wd_over (p : Pg) (ps : List Pl) : Wd p ps none "over" := .inl ⟨1, rfl⟩
theorem Wd_at {p : Pg} {ps : List Pl} {s : Nat × List Nat} {w : Str} (h : wl ps s = some w) : Wd p ps (some s) w := .inl ⟨1, by unfold RW; rw [h]⟩
theorem Wd_next {p : Pg} {ps : List Pl} {s : Nat × List Nat} {w : Str} (h : wl ps s = none) (k : Wd p ps (nxt p s) w) : Wd p ps (some s) w := by
  rcases k with ⟨n, k⟩ | ⟨e, k⟩
  · exact .inl ⟨n + 1, by unfold RW; rw [h]; exact k⟩
  · refine .inr ⟨e, fun n => ?_⟩
    cases n with
    | zero => rfl
    | succ n => unfold RW; rw [h]; exact k n
/-- a closed set without places -/
theorem Wd_closed {p : Pg} {ps : List Pl} {S : Nat × List Nat → Prop} (h : ∀ x, S x → wl ps x = none ∧ ∃ y, S y ∧ nxt p x = some y) : ∀ x, S x → Wd p ps (some x) "missed" := fun x hx => .inr ⟨rfl, fun n => by
  induction n generalizing x with
  | zero => rfl
  | succ n ih =>
    obtain ⟨h1, y, h2, h3⟩ := h x hx
    unfold RW
    rw [h1, h3]
    exact ih y h2⟩
theorem metF_wd {p : Pg} {ps : List Pl} : ∀ (n : Nat) (vis : List (Nat × List Nat)) (o : Option (Nat × List Nat)) (t : T), metF p ps n vis o = some t → (∀ x ∈ vis, wl ps x = none ∧ (nxt p x = o ∨ ∃ y ∈ vis, nxt p x = some y)) → ∃ w z, t = .tup (.str w :: z) ∧ Wd p ps o w
  | 0, _, _, _, e, _ => by cases e
  | n + 1, vis, none, t, e, _ => by
    unfold metF at e
    cases e
    exact ⟨"over", _, rfl, Wd_over p ps⟩
  | n + 1, vis, some s, t, e, hv => by
    unfold metF at e
    by_cases m : s ∈ vis
    · rw [if_pos m] at e
      cases e
      refine ⟨"missed", _, rfl, Wd_closed (S := fun x => x ∈ vis) (fun x hx => ?_) s m⟩
      obtain ⟨h1, h2⟩ := hv x hx
      rcases h2 with h2 | ⟨y, hy, h2⟩
      · exact ⟨h1, s, m, h2⟩
      · exact ⟨h1, y, hy, h2⟩
    · rw [if_neg m] at e
      cases f : ps.find? (fun x => x.row == s.1) with
      | some x =>
        rw [f] at e
        cases e
        exact ⟨_, _, rfl, Wd_at (by unfold wl; rw [f]; rfl)⟩
      | none =>
        rw [f] at e
        have hw : wl ps s = none := by unfold wl; rw [f]; rfl
        obtain ⟨w, z, e1, e2⟩ := metF_wd n (vis ++ [s]) (nxt p s) t e fun x hx => by
          rcases List.mem_append.mp hx with hx | hx
          · obtain ⟨h1, h2⟩ := hv x hx
            refine ⟨h1, ?_⟩
            rcases h2 with h2 | ⟨y, hy, h2⟩
            · exact .inr ⟨s, by simp, h2⟩
            · exact .inr ⟨y, by simp [hy], h2⟩
          · rw [List.mem_singleton.mp hx]
            exact ⟨hw, .inl rfl⟩
        exact ⟨w, z, e1, Wd_next hw e2⟩
theorem metT_wd {p : Pg} {ps : List Pl} (h : p.ok) {s : Nat × List Nat} (hs : St p s.1 s.2) : ∃ w z, metT p ps s = .tup (.str w :: z) ∧ Wd p ps (some s) w :=
  metF_wd 3000 [] (some s) _ (metT_eq h ps hs) fun x m => by cases m
def Good (p : Pg) (ps : List Pl) (o : Option (Nat × List Nat)) : Prop := Wd p ps o "comes" ∨ Wd p ps o "over"
/-- a path: each the one's next, the last one's next is o -/
def Pth (p : Pg) : List (Nat × List Nat) → Option (Nat × List Nat) → Prop
  | [], _ => True
  | [x], o => nxt p x = o
  | x :: y :: r, o => nxt p x = some y ∧ Pth p (y :: r) o
theorem Pth_snoc {p : Pg} : ∀ {l : List (Nat × List Nat)} {s : Nat × List Nat}, Pth p l (some s) → Pth p (l ++ [s]) (nxt p s)
  | [], s, _ => rfl
  | [x], s, h => ⟨h, rfl⟩
  | x :: y :: r, s, h => ⟨h.1, Pth_snoc (l := y :: r) h.2⟩
theorem Pth_next {p : Pg} : ∀ {l : List (Nat × List Nat)} {o : Option (Nat × List Nat)}, Pth p l o → ∀ x ∈ l, nxt p x = o ∨ ∃ y ∈ l, nxt p x = some y
  | [], _, _, x, m => by cases m
  | [a], o, h, x, m => by rw [List.mem_singleton.mp m]; exact .inl h
  | a :: b :: r, o, h, x, m => by
    rcases List.mem_cons.mp m with rfl | m
    · exact .inr ⟨b, by simp, h.1⟩
    · rcases Pth_next (l := b :: r) h.2 x m with q | ⟨y, hy, q⟩
      · exact .inl q
      · exact .inr ⟨y, List.mem_cons_of_mem _ hy, q⟩
/-- back from the end -/
theorem Pth_good {p : Pg} {ps : List Pl} : ∀ {l : List (Nat × List Nat)} {o : Option (Nat × List Nat)}, Pth p l o → (∀ x ∈ l, wl ps x ≠ some "stuck") → Good p ps o → ∀ x ∈ l, Good p ps (some x)
  | [], _, _, _, _, x, m => by cases m
  | a :: r, o, h, hs, hg, x, m => by
    have hr : Good p ps (nxt p a) ∧ ∀ x ∈ r, Good p ps (some x) := by
      cases r with
      | nil => exact ⟨by rw [show nxt p a = o from h]; exact hg, fun x m => by cases m⟩
      | cons b r =>
        have z := Pth_good (l := b :: r) h.2 (fun x m => hs x (List.mem_cons_of_mem _ m)) hg
        exact ⟨by rw [h.1]; exact z b List.mem_cons_self, z⟩
    rcases List.mem_cons.mp m with rfl | m
    · cases e : wl ps x with
      | none =>
        rcases hr.1 with q | q
        · exact .inl (Wd_next e q)
        · exact .inr (Wd_next e q)
      | some w =>
        have hw : w = "comes" := by
          have hn := hs x List.mem_cons_self
          unfold wl at e hn
          cases f : ps.find? (fun y => y.row == x.1) with
          | none => rw [f] at e; cases e
          | some y =>
            rw [f] at e hn
            have e' : (if (turnN x.2 y.rules).isNone = true then ("stuck" : Str) else "comes") = w := Option.some.inj e
            have hn' : (if (turnN x.2 y.rules).isNone = true then ("stuck" : Str) else "comes") ≠ "stuck" := fun z => hn (congrArg some z)
            cases g : (turnN x.2 y.rules).isNone with
            | true => rw [g] at hn'; exact (hn' rfl).elim
            | false => rw [g] at e'; exact e'.symm
        subst hw
        exact .inl (Wd_at e)
    · exact hr.2 x m
end K08

namespace K08
open PySem PySem.Spec PyProof.Rows L2 Evl VS
/-! ### paths -/
def itr (p : Pg) : Nat → Option (Nat × List Nat) → Option (Nat × List Nat)
  | 0, o => o
  | _ + 1, none => none
  | n + 1, some s => itr p n (nxt p s)
theorem itr_none (p : Pg) : ∀ n, itr p n none = none
  | 0 => rfl
  | n + 1 => rfl
theorem Pth_drop {p : Pg} {o : Option (Nat × List Nat)} : ∀ (k : Nat) {l : List (Nat × List Nat)}, Pth p l o → Pth p (l.drop k) o
  | 0, _, h => h
  | k + 1, [], _ => trivial
  | k + 1, [a], _ => by
    rw [List.drop_succ_cons, List.drop_nil]
    trivial
  | k + 1, a :: b :: r, h => Pth_drop k (l := b :: r) h.2
theorem Pth_itr {p : Pg} {o : Option (Nat × List Nat)} : ∀ {l : List (Nat × List Nat)} {a : Nat × List Nat} {r : List (Nat × List Nat)}, l = a :: r → Pth p l o → itr p l.length (some a) = o ∧ ∀ k, k < l.length → itr p k (some a) = l[k]?
  | [], _, _, e, _ => by cases e
  | [x], a, r, e, h => by
    cases e
    refine ⟨h, fun k hk => ?_⟩
    obtain rfl : k = 0 := by simpa using hk
    rfl
  | x :: y :: r', a, r, e, h => by
    cases e
    obtain ⟨h1, h2⟩ := Pth_itr (l := y :: r') rfl h.2
    refine ⟨?_, fun k hk => ?_⟩
    · show itr p (y :: r').length (nxt p x) = o
      rw [h.1]
      exact h1
    · cases k with
      | zero => rfl
      | succ k =>
        show itr p k (nxt p x) = _
        rw [h.1, h2 k (by simpa using hk)]
        rfl
theorem Pth_hit {p : Pg} {ps : List Pl} {o : Option (Nat × List Nat)} : ∀ {l : List (Nat × List Nat)} {a : Nat × List Nat} {r : List (Nat × List Nat)}, l = a :: r → Pth p l o → (∀ x ∈ l, wl ps x = none ∨ wl ps x = some "comes") → (∃ x ∈ l, wl ps x ≠ none) → Good p ps (some a)
  | [], _, _, e, _, _, _ => by cases e
  | [x], a, r, e, h, hs, hx => by
    cases e
    obtain ⟨y, m, hy⟩ := hx
    rw [List.mem_singleton.mp m] at hy
    rcases hs x (by simp) with q | q
    · exact (hy q).elim
    · exact .inl (Wd_at q)
  | x :: y :: r', a, r, e, h, hs, hx => by
    cases e
    rcases hs x (by simp) with q | q
    · obtain ⟨z, m, hz⟩ := hx
      have m' : z ∈ y :: r' := by
        rcases List.mem_cons.mp m with rfl | m
        · exact (hz q).elim
        · exact m
      have g := Pth_hit (l := y :: r') rfl h.2 (fun x m => hs x (List.mem_cons_of_mem _ m)) ⟨z, m', hz⟩
      rw [← h.1] at g
      rcases g with g | g
      · exact .inl (Wd_next q g)
      · exact .inr (Wd_next q g)
    · exact .inl (Wd_at q)
theorem wl_two {ps : List Pl} {x : Nat × List Nat} (h : wl ps x ≠ some "stuck") : wl ps x = none ∨ wl ps x = some "comes" := by
  unfold wl at h ⊢
  cases f : ps.find? (fun y => y.row == x.1) with
  | none => exact .inl rfl
  | some y =>
    rw [f] at h
    cases g : (turnN x.2 y.rules).isNone with
    | true =>
      refine (h ?_).elim
      show some (if (turnN x.2 y.rules).isNone = true then ("stuck" : Str) else "comes") = _
      rw [g]
      rfl
    | false =>
      refine .inr ?_
      show some (if (turnN x.2 y.rules).isNone = true then ("stuck" : Str) else "comes") = _
      rw [g]
      rfl
theorem drop_idx {vis : List (Nat × List Nat)} {s : Nat × List Nat} (m : s ∈ vis) : ∃ r, vis.drop (vis.idxOf s) = s :: r := by
  have hl : vis.idxOf s < vis.length := List.idxOf_lt_length_iff.mpr m
  exact ⟨_, by rw [List.drop_eq_getElem_cons hl, List.getElem_idxOf hl]⟩
/-- back at a state of the path -/
theorem Pth_missed {p : Pg} {ps : List Pl} {vis : List (Nat × List Nat)} {s : Nat × List Nat} (h : Pth p vis (some s)) (m : s ∈ vis) (hn : ∀ x ∈ vis.drop (vis.idxOf s), wl ps x = none) : Wd p ps (some s) "missed" := by
  obtain ⟨r, e⟩ := drop_idx m
  have hp := Pth_drop (vis.idxOf s) h
  refine Wd_closed (S := fun x => x ∈ vis.drop (vis.idxOf s)) (fun x hx => ⟨hn x hx, ?_⟩) s (by rw [e]; simp)
  rcases Pth_next hp x hx with q | ⟨y, hy, q⟩
  · exact ⟨s, by rw [e]; simp, q⟩
  · exact ⟨y, hy, q⟩
theorem Pth_round {p : Pg} {ps : List Pl} {vis : List (Nat × List Nat)} {s : Nat × List Nat} (h : Pth p vis (some s)) (m : s ∈ vis) (hs : ∀ x ∈ vis, wl ps x ≠ some "stuck") (hx : ∃ x ∈ vis.drop (vis.idxOf s), wl ps x ≠ none) : Good p ps (some s) := by
  obtain ⟨r, e⟩ := drop_idx m
  exact Pth_hit e (Pth_drop (vis.idxOf s) h) (fun x m => wl_two (hs x (List.mem_of_mem_drop m))) hx
/-! ### what was found safe -/
structure Fine (p : Pg) (ps : List Pl) (F : List (Nat × List Nat)) : Prop where
  nd : F.Nodup
  st : StA p F
  good : ∀ x ∈ F, Good p ps (some x)
  next : ∀ x ∈ F, ∀ y, nxt p x = some y → y ∈ F
theorem Fine.add {p : Pg} {ps : List Pl} {F vis : List (Nat × List Nat)} {o : Option (Nat × List Nat)} (h : Fine p ps F) (nd : vis.Nodup) (st : StA p vis) (ap : ∀ x ∈ vis, x ∉ F) (hp : Pth p vis o) (hs : ∀ x ∈ vis, wl ps x ≠ some "stuck") (hg : Good p ps o) (ho : ∀ s, o = some s → s ∈ F ∨ s ∈ vis) : Fine p ps (F ++ vis) where
  nd := List.nodup_append.mpr ⟨h.nd, nd, fun a ha b hb e => ap b hb (by rw [← e]; exact ha)⟩
  st := fun x m => by
    rcases List.mem_append.mp m with m | m
    · exact h.st x m
    · exact st x m
  good := fun x m => by
    rcases List.mem_append.mp m with m | m
    · exact h.good x m
    · exact Pth_good hp hs hg x m
  next := fun x m y e => by
    rcases List.mem_append.mp m with m | m
    · exact List.mem_append_left _ (h.next x m y e)
    · rcases Pth_next hp x m with q | ⟨z, hz, q⟩
      · rcases ho y (q.symm.trans e) with w | w
        · exact List.mem_append_left _ w
        · exact List.mem_append_right _ w
      · rw [q] at e
        cases e
        exact List.mem_append_right _ hz
theorem Good_not {p : Pg} {ps : List Pl} {o : Option (Nat × List Nat)} {w : Str} (h : Good p ps o) (k : Wd p ps o w) : w = "comes" ∨ w = "over" := by
  rcases h with h | h
  · exact .inl (Wd_uniq k h)
  · exact .inr (Wd_uniq k h)
/-! ### how many states there are -/
def univ (p : Pg) : List (Nat × List Nat) := (List.range p.rows.length).flatMap fun i => (begL p.M p.B).map fun l => (i, l)
theorem nodup_sub {α : Type} [BEq α] [LawfulBEq α] : ∀ (U l : List α), l.Nodup → (∀ x ∈ l, x ∈ U) → l.length ≤ U.length
  | [], l, _, h => by
    cases l with
    | nil => exact Nat.le_refl _
    | cons a l => cases h a List.mem_cons_self
  | u :: U, l, nd, h => by
    have e := nodup_sub U (l.erase u) (nd.erase u) fun x m => by
      rcases List.mem_cons.mp (h x (List.mem_of_mem_erase m)) with rfl | q
      · exact (nd.not_mem_erase m).elim
      · exact q
    rw [List.length_cons]
    by_cases m : u ∈ l
    · rw [List.length_erase_of_mem m] at e; omega
    · rw [List.erase_of_not_mem m] at e; omega
theorem univ_len (p : Pg) : (univ p).length = p.rows.length * (p.M + 1) ^ p.B := by
  unfold univ
  rw [List.length_flatMap]
  simp only [List.length_map, begL_len]
  rw [List.map_const', List.sum_replicate_nat, List.length_range]
theorem states_le {p : Pg} {vis : List (Nat × List Nat)} (nd : vis.Nodup) (st : StA p vis) : vis.length ≤ p.rows.length * (p.M + 1) ^ p.B := by
  rw [← univ_len]
  refine nodup_sub _ _ nd fun x m => ?_
  obtain ⟨h1, h2, h3⟩ := st x m
  exact List.mem_flatMap.mpr ⟨x.1, List.mem_range.mpr h1, List.mem_map.mpr ⟨x.2, begL_mem.mpr ⟨h2, h3⟩, rfl⟩⟩
end K08

namespace K08
open PySem PySem.Spec PyProof.Rows L2 Evl VS
/-! ### unsafe_run -/
theorem isstuck_ok {p q : Pg} {ps : List Pl} {s : Nat × List Nat} (hq : q.ok) (hps : Pls p q ps) (hs : St p s.1 s.2) : m_is_stuck [byT ps, sT s] = .ok (.bl (wl ps s == some "stuck")) := by
  cases f : ps.find? (fun x => x.row == s.1) with
  | some x =>
    have e := stuck_ok hq hps hs f
    rw [e]
    congr 2
    unfold wl
    rw [f]
    show _ = (some (if (turnN s.2 x.rules).isNone = true then ("stuck" : Str) else "comes") == some "stuck")
    cases (turnN s.2 x.rules).isNone <;> decide +kernel
  | none =>
    have h2 : gDIn false (.int (s.1 : Nat)) (byT ps) = some (.bl false) := by rw [in_byT, any_find, f]; rfl
    have e : (wl ps s == some "stuck") = false := by unfold wl; rw [f]; rfl
    rw [e]
    refine fDef_rt ?_
    show b_is_stuck [.sh (byT ps), .sh (sT s), .un, .un] = _
    unfold b_is_stuck
    generalize m_turned = F at *
    refine pAsg (P := fun o => o = .rt (T.bl false)) (ρ' := [.sh (byT ps), .sh (sT s), .sh (.int (s.1 : Nat)), .sh (numsT s.2)]) rfl rfl ?_
    exact pRet (P := fun o => o = .rt (T.bl false)) (eAnd_bl (a := false) (b := false) (eB_ok rfl rfl h2) fun z => by cases z) rfl
def cU : FE := (eAnd (eB gNotN' (eW 5) (eC .non)) (eAnd (eDtIn true 3 (eV 5)) (eDtIn true 4 (eV 5))))
def bU : FS := (sSeq (sIf (eCall 2 m_is_stuck (aCons (eV 1) (aCons (eV 5) aNil))) (sRetB 3 (eTup (aCons (eC (.str "stuck")) (aCons (eV 2) (aCons (eDtLen 4) aNil))))) sNx)
  (sSeq (sDtPut 4 (eV 5) (eDtLen 4))
  (sAsg (.tp [5, 6]) (eCall 2 m_stepped (aCons (eV 0) (aCons (eV 5) aNil))))))
def eU' : FS := (sSeq (sForD 4 (.nm 8) (sDtPut 3 (eV 8) (eC (.bl true))))
  (sRetB 3 (eC .non)))
def rU : FS := (sSeq (sIf (eDtIn false 4 (eV 5)) (sSeq (sSet 7 (eDtGet 4 (eV 5)))
  (sIf (eNot (eU gAny (eComp (iIt (eSl (eDtKeys 4) (oSome (eV 7)) oNone)) (.nm 8) [8] (eC (.bl true)) (eB (gDIn false) (eB gIx (eW 8) (eC (.int 0))) (eW 1))))) (sRetB 3 (eTup (aCons (eC (.str "missed")) (aCons (eV 2) (aCons (eV 7) aNil))))) sNx)) sNx)
  eU')
def trT (n : Nat) : List T := List.replicate n (.bl true)
def fD (F : List (Nat × List Nat)) : D := .dt (F.map sT) (trT F.length)
def AnsU (p : Pg) (ps : List Pl) (b : List Nat) (F : List (Nat × List Nat)) (t : T) : Prop :=
  (∃ F', t = .tup [.non, enc (fD F')] ∧ Fine p ps F' ∧ (∀ x ∈ F, x ∈ F') ∧ (0, b) ∈ F') ∨
  ∃ w k s, t = .tup [.tup [.str w, numsT b, .int (k : Nat)], enc (fD F)] ∧ (w = "stuck" ∨ w = "missed") ∧ itr p k (some (0, b)) = some s ∧ St p s.1 s.2 ∧ Wd p ps (some s) w ∧ k < p.rows.length * (p.M + 1) ^ p.B
theorem retB_ok {i : Nat} {fa : FE} {ρ : Ev'} {t : T} {F : List (Nat × List Nat)} (h : ρ[i]? = some (.dp (fD F))) (ha : fa ρ = .ok t) : sRetB i fa ρ = .rt (.tup [t, enc (fD F)]) := by
  unfold sRetB
  rw [ha]
  show (match ρ[i]? with | some (.dp d) => if encOk d then Out.rt (.tup [t, enc d]) else .bad | _ => .bad) = _
  rw [h]
  rfl
theorem putF_ok {i : Nat} {fk : FE} {ρ : Ev'} {F : List (Nat × List Nat)} {s : Nat × List Nat} (h : ρ[i]? = some (.dp (fD F))) (hk : fk ρ = .ok (sT s)) (hm : ¬ s ∈ F) (hl : F.length ≤ 4000) : sDtPut i fk (eC (.bl true)) ρ = .nx (ρ.set i (.dp (fD (F ++ [s])))) := by
  unfold sDtPut
  show (match ρ[i]? with
  | some (.dp (.dt ks ws)) => sLift ρ (fk ρ) fun k => (match tk? k with | some _ => if ks.length < 100000 then Out.nx (ρ.set i (.dp (.dt (putK2 ks ws k (.bl true)).1 (putK2 ks ws k (.bl true)).2))) else .bad | none => .bad)
  | _ => .bad) = _
  rw [h, hk]
  show (match tk? (sT s) with | some _ => if (F.map sT).length < 100000 then Out.nx (ρ.set i (.dp (.dt (putK2 (F.map sT) (trT F.length) (sT s) (.bl true)).1 (putK2 (F.map sT) (trT F.length) (sT s) (.bl true)).2))) else .bad | none => .bad) = _
  rw [tk_sT]
  show (if (F.map sT).length < 100000 then Out.nx (ρ.set i (.dp (.dt (putK2 (F.map sT) (trT F.length) (sT s) (.bl true)).1 (putK2 (F.map sT) (trT F.length) (sT s) (.bl true)).2))) else .bad) = _
  rw [if_pos (by rw [List.length_map]; exact lt_big4 hl), put_sT hm]
  unfold fD trT
  rw [List.length_append, List.length_singleton, List.replicate_succ']
theorem forU {a b c x y z : Sl} : ∀ (vis F : List (Nat × List Nat)) (w : Sl), (F ++ vis).Nodup → (F ++ vis).length ≤ 4000 →
    ∃ w', loopF (.nm 8) (sDtPut 3 (eV 8) (eC (.bl true))) (vis.map sT) [a, b, c, .dp (fD F), .un, x, y, z, w] = .nx [a, b, c, .dp (fD (F ++ vis)), .un, x, y, z, w']
  | [], F, w, _, _ => ⟨w, by rw [List.append_nil]; rfl⟩
  | s :: vis, F, w, nd, hl => by
    have e : F ++ s :: vis = (F ++ [s]) ++ vis := by rw [List.append_assoc]; rfl
    have hm : ¬ s ∈ F := fun m => (List.nodup_append.mp nd).2.2 s m s List.mem_cons_self rfl
    have hF : F.length ≤ 4000 := by rw [List.length_append] at hl; omega
    rw [e] at nd hl
    obtain ⟨w', q⟩ := forU vis (F ++ [s]) (.sh (sT s)) nd hl
    refine ⟨w', ?_⟩
    rw [List.map_cons]
    unfold loopF
    simp only [setT, List.set_cons_succ, List.set_cons_zero]
    rw [putF_ok (s := s) rfl rfl hm hF]
    simp only [List.set_cons_succ, List.set_cons_zero]
    rw [q, e]
theorem endU {p : Pg} {ps : List Pl} {F vis : List (Nat × List Nat)} {a b c x y z w : Sl} (nd : (F ++ vis).Nodup) (hl : (F ++ vis).length ≤ 4000) :
    eU' [a, b, c, .dp (fD F), .dp (.dt (vis.map sT) (nT 0 vis.length)), x, y, z, w] = .rt (.tup [.non, enc (fD (F ++ vis))]) := by
  obtain ⟨w', e⟩ := forU (a := a) (b := b) (c := c) (x := x) (y := y) (z := z) vis F w nd hl
  have e2 : sForD 4 (.nm 8) (sDtPut 3 (eV 8) (eC (.bl true))) [a, b, c, .dp (fD F), .dp (.dt (vis.map sT) (nT 0 vis.length)), x, y, z, w] = .nx [a, b, c, .dp (fD (F ++ vis)), .un, x, y, z, w'] := by
    show noRt (loopF (.nm 8) (sDtPut 3 (eV 8) (eC (.bl true))) (vis.map sT) [a, b, c, .dp (fD F), .un, x, y, z, w]) = _
    rw [e]
    rfl
  unfold eU'
  rw [sSeq_nx e2]
  exact retB_ok rfl rfl
theorem state_lt {p : Pg} {vis : List (Nat × List Nat)} {s : Nat × List Nat} (nd : vis.Nodup) (st : StA p vis) (hs : St p s.1 s.2) (hn : ¬ s ∈ vis) : vis.length < p.rows.length * (p.M + 1) ^ p.B := by
  obtain ⟨h1, h2⟩ := vis_snoc nd st hs hn
  have := states_le h1 h2
  rw [List.length_append, List.length_singleton] at this
  exact this
theorem itr_at {p : Pg} {vis : List (Nat × List Nat)} {o : Option (Nat × List Nat)} {s0 : Nat × List Nat} (hp : Pth p vis o) (hd : (vis ++ o.toList).head? = some s0) : itr p vis.length (some s0) = o ∧ ∀ k, k < vis.length → itr p k (some s0) = vis[k]? := by
  cases vis with
  | nil =>
    refine ⟨?_, fun k hk => absurd hk (Nat.not_lt_zero _)⟩
    cases o with
    | none => cases hd
    | some s =>
      have : some s = some s0 := hd
      exact this.symm
  | cons a r =>
    have e : some a = some s0 := hd
    cases e
    exact Pth_itr rfl hp
theorem any_rows {p q : Pg} {ps : List Pl} (hps : Pls p q ps) : ∀ (l : List (Nat × List Nat)), (l.any fun s => ps.any fun x => x.row == s.1) = true ↔ ∃ x ∈ l, wl ps x ≠ none := by
  intro l
  rw [List.any_eq_true]
  constructor
  · rintro ⟨x, hx, h⟩
    refine ⟨x, hx, ?_⟩
    rw [any_find] at h
    unfold wl
    cases f : ps.find? (fun y => y.row == x.1) with
    | none => rw [f] at h; cases h
    | some y => intro z; cases z
  · rintro ⟨x, hx, h⟩
    refine ⟨x, hx, ?_⟩
    rw [any_find]
    unfold wl at h
    cases f : ps.find? (fun y => y.row == x.1) with
    | none => rw [f] at h; exact (h rfl).elim
    | some y => rfl
theorem gAny_bls : ∀ l : List Bool, gAny (.lst (l.map T.bl)) = some (.bl (l.any id)) := by
  intro l
  show (bls (l.map T.bl)).map (fun bs => T.bl (bs.any id)) = _
  have e : bls (l.map T.bl) = some l := by
    induction l with
    | nil => rfl
    | cons a l ih =>
      show (bls (l.map T.bl)).map (a :: ·) = _
      rw [ih]
      rfl
  rw [e]
  rfl
end K08

namespace K08
open PySem PySem.Spec PyProof.Rows L2 Evl VS
theorem loopU {p q : Pg} {ps : List Pl} {b : List Nat} {F : List (Nat × List Nat)} (hp : p.ok) (hq : q.ok) (hps : Pls p q ps) (hF : Fine p ps F) : ∀ (n : Nat) (vis : List (Nat × List Nat)) (o : Option (Nat × List Nat)) (z6 z7 z8 : Sl), 2501 ≤ vis.length + n → vis.Nodup → StA p vis → (∀ x ∈ vis, x ∉ F) → (∀ x ∈ vis, wl ps x ≠ some "stuck") → Pth p vis o → StO p o → (vis ++ o.toList).head? = some (0, b) →
    VS.Good (AnsU p ps b F) (sSeq (whF cU bU n) rU [.sh p.t, .sh (byT ps), .sh (numsT b), .dp (fD F), .dp (.dt (vis.map sT) (nT 0 vis.length)), .sh (oS o), z6, z7, z8]) := by
  intro n
  induction n with
  | zero =>
    intro vis o z6 z7 z8 hl nd st _ _ _ _ _
    have := vis_len hp nd st
    omega
  | succ n ih =>
    intro vis o z6 z7 z8 hl nd st ap hns hpt ho hd
    have hv := vis_len hp nd st
    have hf := vis_len hp hF.nd hF.st
    have ndF : (F ++ vis).Nodup := List.nodup_append.mpr ⟨hF.nd, nd, fun a ha c hc e => ap c hc (by rw [← e]; exact ha)⟩
    have lF : (F ++ vis).length ≤ 4000 := by
      have := vis_len hp ndF fun x m => by
        rcases List.mem_append.mp m with m | m
        · exact hF.st x m
        · exact st x m
      omega
    have hin : (∃ s, o = some s ∧ s ∈ F) ∨ vis ≠ [] → (0, b) ∈ F ++ vis := by
      intro h
      cases vis with
      | nil =>
        rcases h with ⟨s, e, m⟩ | h
        · subst e
          have e2 : some s = some ((0, b) : Nat × List Nat) := hd
          cases e2
          exact List.mem_append_left _ m
        · exact (h rfl).elim
      | cons a r =>
        have e2 : some a = some ((0, b) : Nat × List Nat) := hd
        cases e2
        exact List.mem_append_right _ List.mem_cons_self
    -- all that was come by is safe
    have fin : ∀ z5 z7', Good p ps o → (∀ s, o = some s → s ∈ F ∨ s ∈ vis) → ((∃ s, o = some s ∧ s ∈ F) ∨ vis ≠ []) → VS.Good (AnsU p ps b F) (eU' [.sh p.t, .sh (byT ps), .sh (numsT b), .dp (fD F), .dp (.dt (vis.map sT) (nT 0 vis.length)), z5, z6, z7', z8]) := fun z5 z7' hg h1 h2 =>
      ⟨_, endU (p := p) (ps := ps) ndF lF, .inl ⟨F ++ vis, rfl, hF.add nd st ap hpt hns hg h1, fun x m => List.mem_append_left _ m, hin h2⟩⟩
    cases o with
    | none =>
      have c : cU [.sh p.t, .sh (byT ps), .sh (numsT b), .dp (fD F), .dp (.dt (vis.map sT) (nT 0 vis.length)), .sh .non, z6, z7, z8] = .ok (.bl false) := eAnd_bl (a := false) (b := false) rfl fun z => by cases z
      have hne : vis ≠ [] := fun z => by rw [z] at hd; cases hd
      show VS.Good _ (sSeq (whF cU bU (n + 1)) rU [.sh p.t, .sh (byT ps), .sh (numsT b), .dp (fD F), .dp (.dt (vis.map sT) (nT 0 vis.length)), .sh .non, z6, z7, z8])
      rw [sSeq_nx (whF_f c)]
      refine pIfF (P := VS.Good _) (dtIn_non (neg := false) rfl rfl) ?_
      refine pNx (P := VS.Good _) ?_
      exact fin _ _ (.inr (Wd_over p ps)) (fun s e => by cases e) (.inr hne)
    | some s =>
      have hs : St p s.1 s.2 := ho
      show VS.Good _ (sSeq (whF cU bU (n + 1)) rU [.sh p.t, .sh (byT ps), .sh (numsT b), .dp (fD F), .dp (.dt (vis.map sT) (nT 0 vis.length)), .sh (sT s), z6, z7, z8])
      have c : cU [.sh p.t, .sh (byT ps), .sh (numsT b), .dp (fD F), .dp (.dt (vis.map sT) (nT 0 vis.length)), .sh (sT s), z6, z7, z8] = .ok (.bl (true && ((!decide (s ∈ F)) && (!decide (s ∈ vis))))) :=
        eAnd_bl (a := true) rfl fun _ => eAnd_bl (dtIn_ok (neg := true) (vis := F) (ws := trT F.length) rfl rfl) fun _ => dtIn_ok (neg := true) rfl rfl
      have ci : eDtIn false 4 (eV 5) [.sh p.t, .sh (byT ps), .sh (numsT b), .dp (fD F), .dp (.dt (vis.map sT) (nT 0 vis.length)), .sh (sT s), z6, z7, z8] = .ok (.bl (decide (s ∈ vis))) := dtIn_ok (neg := false) rfl rfl
      by_cases mF : s ∈ F
      · rw [decide_eq_true mF] at c
        have nv : ¬ s ∈ vis := fun m => ap s m mF
        rw [decide_eq_false nv] at ci
        rw [sSeq_nx (whF_f c)]
        refine pIfF (P := VS.Good _) ci ?_
        refine pNx (P := VS.Good _) ?_
        exact fin _ _ (hF.good s mF) (fun x e => by cases e; exact .inl mF) (.inl ⟨s, rfl, mF⟩)
      · rw [decide_eq_false mF] at c
        by_cases mv : s ∈ vis
        · rw [decide_eq_true mv] at c ci
          rw [sSeq_nx (whF_f c)]
          have hne : vis ≠ [] := fun z => by rw [z] at mv; cases mv
          have hidx : vis.idxOf s < vis.length := List.idxOf_lt_length_iff.mpr mv
          refine pIfT (P := VS.Good _) ci ?_
          refine pAssoc (P := VS.Good _) ?_
          refine pSet (P := VS.Good _) (dtGet_ok rfl rfl mv) ?_
          simp only [List.set_cons_succ, List.set_cons_zero]
          have cut0 : cutT (vis.map sT) (some ((vis.idxOf s : Nat) : Int)) none = (vis.drop (vis.idxOf s)).map sT := by
            unfold cutT
            show ((vis.map sT).drop (HT.sIx (vis.map sT).length 0 (some ((vis.idxOf s : Nat) : Int)))).take ((vis.map sT).length - HT.sIx (vis.map sT).length 0 (some ((vis.idxOf s : Nat) : Int))) = _
            rw [HT.sIx_nat, List.length_map, Nat.min_eq_left (by omega), List.take_of_length_le (by rw [List.length_drop, List.length_map]; exact Nat.le_refl _), List.map_drop]
          have ca : (eNot (eU gAny (eComp (iIt (eSl (eDtKeys 4) (oSome (eV 7)) oNone)) (.nm 8) [8] (eC (.bl true)) (eB (gDIn false) (eB gIx (eW 8) (eC (.int 0))) (eW 1))))) [.sh p.t, .sh (byT ps), .sh (numsT b), .dp (fD F), .dp (.dt (vis.map sT) (nT 0 vis.length)), .sh (sT s), z6, .sh (.int (vis.idxOf s : Nat)), z8] = .ok (.bl (!((vis.drop (vis.idxOf s)).any fun s => ps.any fun x => x.row == s.1))) := by
            have hit : iIt (eSl (eDtKeys 4) (oSome (eV 7)) oNone) [.sh p.t, .sh (byT ps), .sh (numsT b), .dp (fD F), .dp (.dt (vis.map sT) (nT 0 vis.length)), .sh (sT s), z6, .sh (.int (vis.idxOf s : Nat)), z8] = .ok ((vis.drop (vis.idxOf s)).map sT) := by
              refine iIt_lst ?_
              show Res.of (some (T.lst (cutT (vis.map sT) (some ((vis.idxOf s : Nat) : Int)) none))) = _
              rw [cut0]
              rfl
            have ec : eComp (iIt (eSl (eDtKeys 4) (oSome (eV 7)) oNone)) (.nm 8) [8] (eC (.bl true)) (eB (gDIn false) (eB gIx (eW 8) (eC (.int 0))) (eW 1)) [.sh p.t, .sh (byT ps), .sh (numsT b), .dp (fD F), .dp (.dt (vis.map sT) (nT 0 vis.length)), .sh (sT s), z6, .sh (.int (vis.idxOf s : Nat)), z8] = .ok (.lst (((vis.drop (vis.idxOf s)).map fun s => ps.any fun x => x.row == s.1).map T.bl)) := by
              unfold eComp
              rw [hit]
              show (Res.bind (compF (.nm 8) (eC (.bl true)) (eB (gDIn false) (eB gIx (eW 8) (eC (.int 0))) (eW 1)) ((vis.drop (vis.idxOf s)).map sT) [.sh p.t, .sh (byT ps), .sh (numsT b), .dp (fD F), .dp (.dt (vis.map sT) (nT 0 vis.length)), .sh (sT s), z6, .sh (.int (vis.idxOf s : Nat)), .un]) fun ts => if ts.length ≤ 99999 then Res.ok (T.lst ts) else .bad) = _
              rw [compF_filter (u := sT) (f := fun s => T.bl (ps.any fun x => x.row == s.1)) (p := fun _ => true) fun x m => ⟨rfl, fun _ => eB_ok (eB_ok rfl rfl (show gIx (sT x) (.int 0) = some (.int (x.1 : Nat)) from rfl)) rfl (in_byT ps x.1)⟩, List.filter_eq_self.mpr fun _ _ => rfl]
              show (if ((vis.drop (vis.idxOf s)).map fun s => T.bl (ps.any fun x => x.row == s.1)).length ≤ 99999 then Res.ok (T.lst ((vis.drop (vis.idxOf s)).map fun s => T.bl (ps.any fun x => x.row == s.1))) else .bad) = _
              rw [if_pos (Nat.le_of_lt_succ (lt_big4 (by rw [List.length_map, List.length_drop]; omega))), List.map_map]
              rfl
            refine eNot_bl (eU_ok ec ?_)
            rw [gAny_bls, List.any_map]
            rfl
          cases hany : (vis.drop (vis.idxOf s)).any fun s => ps.any fun x => x.row == s.1 with
          | true =>
            rw [hany] at ca
            refine pIfF (P := VS.Good _) ca ?_
            refine pNx (P := VS.Good _) ?_
            exact fin _ _ (Pth_round hpt mv hns ((any_rows hps _).mp hany)) (fun x e => by cases e; exact .inr mv) (.inr hne)
          | false =>
            rw [hany] at ca
            have hno : ∀ x ∈ vis.drop (vis.idxOf s), wl ps x = none := fun x m => by
              cases e : wl ps x with
              | none => rfl
              | some w =>
                have := (any_rows hps _).mpr ⟨x, m, by rw [e]; intro z; cases z⟩
                rw [hany] at this
                cases this
            refine pIfT (P := VS.Good _) ca ?_
            refine pSeqRt (P := VS.Good _) (retB_ok rfl (eTup_ok (aCons_ok rfl (aCons_ok rfl (aCons_ok rfl rfl))) (by show 3 ≤ 1000; decide))) ⟨_, rfl, .inr ⟨"missed", vis.idxOf s, s, rfl, .inr rfl, ?_, hs, Pth_missed hpt mv hno, ?_⟩⟩
            · rw [(itr_at hpt hd).2 _ hidx, List.getElem?_eq_getElem hidx, List.getElem_idxOf hidx]
            · have := states_le nd st
              omega
        · rw [decide_eq_false mv] at c
          have hk := isstuck_ok hq hps hs
          cases hw : (wl ps s == some "stuck") with
          | true =>
            rw [hw] at hk
            have hw' : wl ps s = some "stuck" := eq_of_beq hw
            have bb : bU [.sh p.t, .sh (byT ps), .sh (numsT b), .dp (fD F), .dp (.dt (vis.map sT) (nT 0 vis.length)), .sh (sT s), z6, z7, z8] = .rt (.tup [.tup [.str "stuck", numsT b, .int (vis.length : Nat)], enc (fD F)]) := by
              unfold bU
              generalize m_is_stuck = G1 at *
              refine pIfT (P := fun o => o = .rt _) (eCall_ok (aCons_ok rfl (aCons_ok rfl rfl)) rfl hk) ?_
              exact pSeqRt (P := fun o => o = .rt _) (retB_ok rfl (eTup_ok (aCons_ok rfl (aCons_ok rfl (aCons_ok (dtLen_ok rfl) rfl))) (by show 3 ≤ 1000; decide))) rfl
            unfold sSeq
            rw [whF_rt c bb]
            exact ⟨_, rfl, .inr ⟨"stuck", vis.length, s, rfl, .inl rfl, (itr_at hpt hd).1, hs, Wd_at hw', state_lt nd st hs mv⟩⟩
          | false =>
            rw [hw] at hk
            have hlt := hs.1
            have hr : p.rows[s.1]? = some p.rows[s.1] := List.getElem?_eq_getElem hs.1
            have h1 := stepped_ok hp hr hs.2
            have en : nxt p s = nx p s.1 s.2 p.rows[s.1] := by unfold nxt; rw [hr]
            have bb : bU [.sh p.t, .sh (byT ps), .sh (numsT b), .dp (fD F), .dp (.dt (vis.map sT) (nT 0 vis.length)), .sh (sT s), z6, z7, z8] = .nx [.sh p.t, .sh (byT ps), .sh (numsT b), .dp (fD F), .dp (.dt ((vis ++ [s]).map sT) (nT 0 (vis ++ [s]).length)), .sh (oS (nxt p s)), .sh (oN (tl s.2 p.rows[s.1])), z7, z8] := by
              unfold bU
              generalize m_is_stuck = G1 at *
              generalize m_stepped = G2 at *
              refine pIfF (P := fun o => o = .nx _) (eCall_ok (aCons_ok rfl (aCons_ok rfl rfl)) rfl hk) ?_
              refine pNx (P := fun o => o = .nx _) ?_
              refine pSeq (P := fun o => o = .nx _) (dtPut_ok rfl (dtLen_ok rfl) rfl mv (by omega)) ?_
              simp only [List.set_cons_succ, List.set_cons_zero]
              unfold sAsg
              have h2 : eCall 2 G2 (aCons (eV 0) (aCons (eV 5) aNil)) [.sh p.t, .sh (byT ps), .sh (numsT b), .dp (fD F), .dp (.dt ((vis ++ [s]).map sT) (nT 0 (vis ++ [s]).length)), .sh (sT s), z6, z7, z8] = .ok (stepT p s.1 s.2 p.rows[s.1]) := eCall_ok (aCons_ok rfl (aCons_ok rfl rfl)) rfl h1
              rw [h2, en]
              rfl
            rw [show sSeq (whF cU bU (n + 1)) rU [.sh p.t, .sh (byT ps), .sh (numsT b), .dp (fD F), .dp (.dt (vis.map sT) (nT 0 vis.length)), .sh (sT s), z6, z7, z8] = sSeq (whF cU bU n) rU [.sh p.t, .sh (byT ps), .sh (numsT b), .dp (fD F), .dp (.dt ((vis ++ [s]).map sT) (nT 0 (vis ++ [s]).length)), .sh (oS (nxt p s)), .sh (oN (tl s.2 p.rows[s.1])), z7, z8] from by
              unfold sSeq
              rw [whF_nx c bb]]
            obtain ⟨nd', st'⟩ := vis_snoc nd st hs mv
            refine ih (vis ++ [s]) (nxt p s) _ _ _ (by rw [List.length_append, List.length_singleton]; omega) nd' st' (fun x m => ?_) (fun x m => ?_) (Pth_snoc hpt) (nxt_ok hp hs) ?_
            · rcases List.mem_append.mp m with m | m
              · exact ap x m
              · rw [List.mem_singleton.mp m]; exact mF
            · rcases List.mem_append.mp m with m | m
              · exact hns x m
              · rw [List.mem_singleton.mp m]
                intro z
                rw [z] at hw
                simp at hw
            · cases vis with
              | nil => exact hd
              | cons a r => exact hd
theorem unsafe_ok {p q : Pg} {ps : List Pl} {b : List Nat} {F : List (Nat × List Nat)} (hp : p.ok) (hq : q.ok) (hps : Pls p q ps) (hF : Fine p ps F) (hb : Nums p b) : ∃ t, b_unsafe_run [.sh p.t, .sh (byT ps), .sh (numsT b), .dp (fD F), .un, .un, .un, .un, .un] = .rt t ∧ AnsU p ps b F t := by
  have h := loopU (b := b) hp hq hps hF 3000 [] (some (0, b)) .un .un .un (by decide) List.nodup_nil (fun x m => by cases m) (fun x m => by cases m) (fun x m => by cases m) trivial ⟨hp.n1, hb⟩ rfl
  show VS.Good _ _
  unfold b_unsafe_run
  refine pSeq (P := VS.Good _) (f := sNewDt 4) rfl ?_
  refine pSet (P := VS.Good _) (t := sT (0, b)) (eTup_ok (aCons_ok rfl (aCons_ok rfl rfl)) (by show 2 ≤ 1000; decide)) ?_
  exact h
theorem unsafe_run_ok {p q : Pg} {ps : List Pl} {b : List Nat} {F : List (Nat × List Nat)} (hp : p.ok) (hq : q.ok) (hps : Pls p q ps) (hF : Fine p ps F) (hb : Nums p b) :
    (∃ F', m_unsafe_run [p.t, byT ps, numsT b, .non] (fD F) = .ok .non (fD F') ∧ Fine p ps F' ∧ (∀ x ∈ F, x ∈ F') ∧ (0, b) ∈ F') ∨
    ∃ w k s, m_unsafe_run [p.t, byT ps, numsT b, .non] (fD F) = .ok (.tup [.str w, numsT b, .int (k : Nat)]) (fD F) ∧ (w = "stuck" ∨ w = "missed") ∧ itr p k (some (0, b)) = some s ∧ St p s.1 s.2 ∧ Wd p ps (some s) w ∧ k < p.rows.length * (p.M + 1) ^ p.B := by
  obtain ⟨t, e, h⟩ := unsafe_ok hp hq hps hF hb
  have e' : b_unsafe_run (frB 3 9 [p.t, byT ps, numsT b, .non] (fD F)) = .rt t := e
  rcases h with ⟨F', rfl, h1, h2, h3⟩ | ⟨w, k, s, rfl, h1, h2, h3, h4, h5⟩
  · refine .inl ⟨F', ?_, h1, h2, h3⟩
    show outB 3 (b_unsafe_run (frB 3 9 [p.t, byT ps, numsT b, .non] (fD F))) = _
    rw [e']
    rfl
  · refine .inr ⟨w, k, s, ?_, h1, h2, h3, h4, h5⟩
    show outB 3 (b_unsafe_run (frB 3 9 [p.t, byT ps, numsT b, .non] (fD F))) = _
    rw [e']
    rfl
end K08

namespace K08
open PySem PySem.Spec PyProof.Rows L2 Evl VS
/-! ### looked -/
theorem runB_ok {j n : Nat} {g : MirB} {fr : FA} {kk : T → Ev' → Out} {ρ : Ev'} {ts : List T} {d d' : D} {t : T} (h1 : fr ρ = .ok ts) (h2 : ts.length = n) (h3 : ρ[j]? = some (.dp d)) (h4 : encOk d = true) (h5 : g ts d = .ok t d') : runB j n g fr kk ρ = kk t (ρ.set j (.dp d')) := by
  unfold runB
  simp only [h1, h2, if_true, h3, h4, h5]
def LookQ (p : Pg) (ps : List Pl) (t : T) : Prop :=
  (t = .tup [.str "safe"] ∧ ∃ F, Fine p ps F ∧ ∀ b ∈ begL p.M p.B, (0, b) ∈ F) ∨
  ∃ w b k s, t = .tup [.str w, numsT b, .int (k : Nat)] ∧ b ∈ begL p.M p.B ∧ (w = "stuck" ∨ w = "missed") ∧ itr p k (some (0, b)) = some s ∧ St p s.1 s.2 ∧ Wd p ps (some s) w ∧ k < p.rows.length * (p.M + 1) ^ p.B
theorem looked_ok {p q : Pg} {ps : List Pl} (hp : p.ok) (hq : q.ok) (hps : Pls p q ps) : ∃ t, m_looked [p.t, q.t, .lst (ps.map Pl.t)] = .ok t ∧ LookQ p ps t := by
  have h1 := need_places_ok hp hq hps
  have h2 := by_row_ok hps.nd (by have := hps.len; have := hp.n20; omega)
  have h3 := begins_ok hp
  have hu : ∀ (F : List (Nat × List Nat)) (b : List Nat), Fine p ps F → Nums p b → _ := fun F b hF hb => unsafe_run_ok (b := b) (F := F) hp hq hps hF hb
  refine def_P (Q := LookQ p ps) ?_
  show VS.Good _ (b_looked [.sh p.t, .sh q.t, .sh (.lst (ps.map Pl.t)), .un, .un, .un, .un])
  unfold b_looked
  generalize m_need_places = F1 at *
  generalize m_by_row = F2 at *
  generalize m_begins = F3 at *
  generalize m_unsafe_run = F4 at *
  refine pSet (P := VS.Good _) (eCall_ok (aCons_ok (eCall_ok (aCons_ok rfl (aCons_ok rfl (aCons_ok rfl rfl))) rfl h1) rfl) rfl h2) ?_
  simp only [List.set_cons_succ, List.set_cons_zero]
  refine pSeq (P := VS.Good _) (f := sNewDt 4) rfl ?_
  refine pFor (P := VS.Good _) (α := List Nat) (u := numsT) (fun r ρ => ∃ A F z5 z6, begL p.M p.B = A ++ r ∧ Fine p ps F ∧ (∀ b ∈ A, (0, b) ∈ F) ∧ ρ = [.sh p.t, .sh q.t, .sh (.lst (ps.map Pl.t)), .sh (byT ps), .dp (fD F), z5, z6]) (l := begL p.M p.B) (iIt_lst (eCall_ok (aCons_ok rfl rfl) rfl h3))
    ⟨[], [], .un, .un, rfl, ⟨List.nodup_nil, fun x m => (nomatch m), fun x m => (nomatch m), fun x m => (nomatch m)⟩, fun b m => (nomatch m), rfl⟩ ?_ ?_
  · rintro b r ρ ⟨A, F, z5, z6, e, hF, hA, rfl⟩
    have hb : b ∈ begL p.M p.B := by rw [e]; simp
    have hN : Nums p b := begL_mem.mp hb
    refine ⟨[.sh p.t, .sh q.t, .sh (.lst (ps.map Pl.t)), .sh (byT ps), .dp (fD F), .sh (numsT b), z6], rfl, ?_⟩
    rcases hu F b hF hN with ⟨F', e1, hF', sub, m0⟩ | ⟨w, k, s, e1, hw, hk, hs, hd, hl⟩
    · refine .inl ⟨[.sh p.t, .sh q.t, .sh (.lst (ps.map Pl.t)), .sh (byT ps), .dp (fD F'), .sh (numsT b), .sh .non], ?_, A ++ [b], F', _, _, by rw [List.append_assoc]; exact e, hF', fun x m => ?_, rfl⟩
      · have a1 : sSetB 6 4 4 F4 (aCons (eV 0) (aCons (eV 3) (aCons (eV 5) (aCons (eC .non) aNil)))) [.sh p.t, .sh q.t, .sh (.lst (ps.map Pl.t)), .sh (byT ps), .dp (fD F), .sh (numsT b), z6] = .nx [.sh p.t, .sh q.t, .sh (.lst (ps.map Pl.t)), .sh (byT ps), .dp (fD F'), .sh (numsT b), .sh .non] := by
          unfold sSetB
          exact runB_ok (ts := [p.t, byT ps, numsT b, .non]) (d := fD F) (d' := fD F') (t := .non) (aCons_ok rfl (aCons_ok rfl (aCons_ok rfl (aCons_ok rfl rfl)))) rfl rfl rfl e1
        rw [sSeq_nx a1]
        rfl
      · rcases List.mem_append.mp m with m | m
        · exact sub _ (hA x m)
        · rw [List.mem_singleton.mp m]; exact m0
    · refine .inr (.inr ⟨.tup [.str w, numsT b, .int (k : Nat)], ?_, ⟨_, rfl, .inr ⟨w, b, k, s, rfl, hb, hw, hk, hs, hd, hl⟩⟩⟩)
      have a1 : sSetB 6 4 4 F4 (aCons (eV 0) (aCons (eV 3) (aCons (eV 5) (aCons (eC .non) aNil)))) [.sh p.t, .sh q.t, .sh (.lst (ps.map Pl.t)), .sh (byT ps), .dp (fD F), .sh (numsT b), z6] = .nx [.sh p.t, .sh q.t, .sh (.lst (ps.map Pl.t)), .sh (byT ps), .dp (fD F), .sh (numsT b), .sh (.tup [.str w, numsT b, .int (k : Nat)])] := by
        unfold sSetB
        exact runB_ok (ts := [p.t, byT ps, numsT b, .non]) (d := fD F) (d' := fD F) (aCons_ok rfl (aCons_ok rfl (aCons_ok rfl (aCons_ok rfl rfl)))) rfl rfl rfl e1
      rw [sSeq_nx a1]
      rfl
  · rintro ρ ⟨A, F, z5, z6, e, hF, hA, rfl⟩
    rw [List.append_nil] at e
    exact pRet (P := VS.Good _) (eTup_ok (aCons_ok rfl rfl) (by show 1 ≤ 1000; decide)) ⟨_, rfl, .inl ⟨rfl, F, hF, by rw [e]; exact hA⟩⟩
/-- what is come by from the begins -/
theorem Fine.itr {p : Pg} {ps : List Pl} {F : List (Nat × List Nat)} (h : Fine p ps F) : ∀ (k : Nat) (x y : Nat × List Nat), x ∈ F → K08.itr p k (some x) = some y → y ∈ F
  | 0, x, y, m, e => by cases e; exact m
  | k + 1, x, y, m, e => by
    have e : K08.itr p k (nxt p x) = some y := e
    cases f : nxt p x with
    | none => rw [f, itr_none] at e; cases e
    | some z =>
      rw [f] at e
      exact h.itr k z y (h.next x m z f) e
end K08

namespace K08
open PySem PySem.Spec PyProof.Rows L2 Evl VS
/-! ### what the law knows -/
abbrev Kn := List ((Nat × List Nat) × Str)
def kD (K : Kn) : D := .dt (K.map fun x : (Nat × List Nat) × Str => sT x.1) (K.map fun x : (Nat × List Nat) × Str => T.str x.2)
theorem any_kD (K : Kn) (s : Nat × List Nat) : ((K.map fun x : (Nat × List Nat) × Str => sT x.1).any fun z => tkEq z (sT s)) = decide (s ∈ K.map (·.1)) := by
  have e : (K.map fun x : (Nat × List Nat) × Str => sT x.1) = (K.map (·.1)).map sT := by rw [List.map_map]; rfl
  rw [e, any_sT]
theorem knIn_ok {neg : Bool} {i : Nat} {fa : FE} {ρ : Ev'} {K : Kn} {s : Nat × List Nat} (h : ρ[i]? = some (.dp (kD K))) (ha : fa ρ = .ok (sT s)) : eDtIn neg i fa ρ = .ok (.bl (if neg then !decide (s ∈ K.map (·.1)) else decide (s ∈ K.map (·.1)))) := by
  have e : (K.map fun x : (Nat × List Nat) × Str => sT x.1) = (K.map (·.1)).map sT := by rw [List.map_map]; rfl
  have h' : ρ[i]? = some (.dp (.dt ((K.map (·.1)).map sT) (K.map fun x : (Nat × List Nat) × Str => T.str x.2))) := by rw [h, ← e]; rfl
  exact dtIn_ok h' ha
theorem knPut_ok {i : Nat} {fk fe : FE} {ρ : Ev'} {K : Kn} {s : Nat × List Nat} {w : Str} (h : ρ[i]? = some (.dp (kD K))) (he : fe ρ = .ok (.str w)) (hk : fk ρ = .ok (sT s)) (hm : ¬ s ∈ K.map (·.1)) (hl : K.length ≤ 4000) : sDtPut i fk fe ρ = .nx (ρ.set i (.dp (kD (K ++ [(s, w)])))) := by
  unfold sDtPut
  rw [he]
  show (match ρ[i]? with
  | some (.dp (.dt ks ws)) => sLift ρ (fk ρ) fun k => (match tk? k with | some _ => if ks.length < 100000 then Out.nx (ρ.set i (.dp (.dt (putK2 ks ws k (.str w)).1 (putK2 ks ws k (.str w)).2))) else .bad | none => .bad)
  | _ => .bad) = _
  rw [h, hk]
  show (match tk? (sT s) with | some _ => if (K.map fun x : (Nat × List Nat) × Str => sT x.1).length < 100000 then Out.nx (ρ.set i (.dp (.dt (putK2 (K.map fun x : (Nat × List Nat) × Str => sT x.1) (K.map fun x : (Nat × List Nat) × Str => T.str x.2) (sT s) (.str w)).1 (putK2 (K.map fun x : (Nat × List Nat) × Str => sT x.1) (K.map fun x : (Nat × List Nat) × Str => T.str x.2) (sT s) (.str w)).2))) else .bad | none => .bad) = _
  rw [tk_sT]
  show (if (K.map fun x : (Nat × List Nat) × Str => sT x.1).length < 100000 then Out.nx (ρ.set i (.dp (.dt (putK2 (K.map fun x : (Nat × List Nat) × Str => sT x.1) (K.map fun x : (Nat × List Nat) × Str => T.str x.2) (sT s) (.str w)).1 (putK2 (K.map fun x : (Nat × List Nat) × Str => sT x.1) (K.map fun x : (Nat × List Nat) × Str => T.str x.2) (sT s) (.str w)).2))) else .bad) = _
  rw [if_pos (by rw [List.length_map]; exact lt_big4 hl)]
  unfold putK2
  rw [any_kD, decide_eq_false hm, if_neg (by decide)]
  unfold kD
  rw [List.map_append, List.map_append]
  rfl
theorem look_kD : ∀ (K : Kn) (s : Nat × List Nat), s ∈ K.map (·.1) → ∃ w, (s, w) ∈ K ∧ lookK (K.map fun x : (Nat × List Nat) × Str => sT x.1) (K.map fun x : (Nat × List Nat) × Str => T.str x.2) (sT s) = some (.str w)
  | [], s, h => by cases h
  | a :: K, s, h => by
    show ∃ w, (s, w) ∈ a :: K ∧ (if tkEq (sT a.1) (sT s) then some (T.str a.2) else lookK (K.map fun x : (Nat × List Nat) × Str => sT x.1) (K.map fun x : (Nat × List Nat) × Str => T.str x.2) (sT s)) = some (.str w)
    rw [tkEq_sT]
    by_cases e : a.1 = s
    · rw [decide_eq_true e, if_pos rfl]
      exact ⟨a.2, by rw [← e]; exact List.mem_cons_self, rfl⟩
    · rw [decide_eq_false e, if_neg (by decide)]
      have h' : s ∈ K.map (·.1) := by
        rcases List.mem_cons.mp h with h | h
        · exact (e h.symm).elim
        · exact h
      obtain ⟨w, h1, h2⟩ := look_kD K s h'
      exact ⟨w, List.mem_cons_of_mem _ h1, h2⟩
def bG : FS := (sSeq (sIf (eB (gDIn false) (eB gIx (eW 4) (eC (.int 0))) (eW 0)) (sSet 2 (eB gIx (eLst (aCons (eC (.str "comes")) (aCons (eC (.str "stuck")) aNil))) (eU gInt (eB gIsN' (eCall 2 m_law_turned (aCons (eB gDGet (eW 0) (eB gIx (eW 4) (eC (.int 0)))) (aCons (eB gIx (eW 4) (eC (.int 1))) aNil))) (eC .non))))) sNx)
  (sDtPut 3 (eV 4) (eV 2)))
theorem bG_ok {p q : Pg} {ps : List Pl} {K : Kn} {s : Nat × List Nat} {w : Str} {a : Sl} (hq : q.ok) (hps : Pls p q ps) (hs : St p s.1 s.2) (hm : ¬ s ∈ K.map (·.1)) (hl : K.length ≤ 4000) :
    bG [.sh (lrT ps), a, .sh (.str w), .dp (kD K), .sh (sT s)] = .nx [.sh (lrT ps), a, .sh (.str ((wl ps s).getD w)), .dp (kD (K ++ [(s, (wl ps s).getD w)])), .sh (sT s)] := by
  have hin : gDIn false (.int (s.1 : Nat)) (lrT ps) = some (.bl (ps.find? fun x => x.row == s.1).isSome) := by rw [in_lrT, any_find]
  have g0 : gIx (sT s) (.int 0) = some (.int (s.1 : Nat)) := rfl
  have g1 : gIx (sT s) (.int 1) = some (numsT s.2) := rfl
  unfold bG
  cases f : ps.find? (fun x => x.row == s.1) with
  | none =>
    rw [f] at hin
    have e : (wl ps s).getD w = w := by unfold wl; rw [f]; rfl
    rw [e]
    refine pIfF (P := fun o => o = .nx _) (eB_ok (eB_ok rfl rfl g0) rfl hin) ?_
    refine pNx (P := fun o => o = .nx _) ?_
    rw [knPut_ok (s := s) (w := w) rfl rfl rfl hm hl]
    rfl
  | some x =>
    rw [f] at hin
    have hmx := List.mem_of_find?_eq_some f
    have h1 := lturned_ok (hps.ok x hmx).rules hq hs.2
    have h3 : gDGet (lrT ps) (.int (s.1 : Nat)) = some (rulesT x.rules) := by rw [get_lrT, f]; rfl
    have h5 := isN_oL (turnN s.2 x.rules)
    have e : (wl ps s).getD w = (if (turnN s.2 x.rules).isNone then ("stuck" : Str) else "comes") := by unfold wl; rw [f]; rfl
    rw [e]
    have h6 : gIx (.lst [.str "comes", .str "stuck"]) (.int (if (turnN s.2 x.rules).isNone then 1 else 0)) = some (.str (if (turnN s.2 x.rules).isNone then ("stuck" : Str) else "comes")) := by
      cases (turnN s.2 x.rules).isNone <;> rfl
    have h7 : gInt (.bl (turnN s.2 x.rules).isNone) = some (.int (if (turnN s.2 x.rules).isNone then 1 else 0)) := by
      cases (turnN s.2 x.rules).isNone <;> rfl
    generalize m_law_turned = F at *
    generalize oL (turnN s.2 x.rules) = R at *
    generalize (if (turnN s.2 x.rules).isNone then ("stuck" : Str) else "comes") = v at *
    have hL : ∀ ρ, eLst (aCons (eC (.str "comes")) (aCons (eC (.str "stuck")) aNil)) ρ = .ok (.lst [.str "comes", .str "stuck"]) := fun ρ => eLst_ok (aCons_ok rfl (aCons_ok rfl rfl)) (by show 2 ≤ 1000; decide)
    have hc : eCall 2 F (aCons (eB gDGet (eW 0) (eB gIx (eW 4) (eC (.int 0)))) (aCons (eB gIx (eW 4) (eC (.int 1))) aNil)) [.sh (lrT ps), a, .sh (.str w), .dp (kD K), .sh (sT s)] = .ok R :=
      eCall_ok (aCons_ok (eB_ok rfl (eB_ok rfl rfl g0) h3) (aCons_ok (eB_ok rfl rfl g1) rfl)) rfl h1
    refine pIfT (P := fun o => o = .nx _) (eB_ok (eB_ok rfl rfl g0) rfl hin) ?_
    refine pSet (P := fun o => o = .nx _) (eB_ok (hL _) (eU_ok (eB_ok hc rfl h5) h7) h6) ?_
    simp only [List.set_cons_succ, List.set_cons_zero]
    rw [knPut_ok (s := s) (w := v) rfl rfl rfl hm hl]
    rfl
end K08

namespace K08
open PySem PySem.Spec PyProof.Rows L2 Evl VS
/-- a path, from its end -/
def RPth (p : Pg) : List (Nat × List Nat) → Option (Nat × List Nat) → Prop
  | [], _ => True
  | x :: L, o => nxt p x = o ∧ RPth p L (some x)
theorem RPth_next {p : Pg} : ∀ {L : List (Nat × List Nat)} {o : Option (Nat × List Nat)}, RPth p L o → ∀ x ∈ L, nxt p x = o ∨ ∃ y ∈ L, nxt p x = some y
  | [], _, _, x, m => by cases m
  | a :: L, o, h, x, m => by
    rcases List.mem_cons.mp m with rfl | m
    · exact .inl h.1
    · rcases RPth_next h.2 x m with q | ⟨y, hy, q⟩
      · exact .inr ⟨a, List.mem_cons_self, q⟩
      · exact .inr ⟨y, List.mem_cons_of_mem _ hy, q⟩
theorem backL {p q : Pg} {ps : List Pl} {a : Sl} (hq : q.ok) (hps : Pls p q ps) : ∀ (L : List (Nat × List Nat)) (K : Kn) (o : Option (Nat × List Nat)) (w : Str) (z : Sl), RPth p L o → Wd p ps o w → StA p L → (∀ x ∈ L, x ∉ K.map (·.1)) → L.Nodup → K.length + L.length ≤ 4000 →
    ∃ (K' : Kn) (w' : Str) (z' : Sl), loopF (.nm 4) bG (L.map sT) [.sh (lrT ps), a, .sh (.str w), .dp (kD K), z] = .nx [.sh (lrT ps), a, .sh (.str w'), .dp (kD (K ++ K')), z'] ∧ K'.map (·.1) = L ∧ ∀ y ∈ K', Wd p ps (some y.1) y.2
  | [], K, o, w, z, _, _, _, _, _, _ => ⟨[], w, z, by rw [List.append_nil]; rfl, rfl, fun y m => by cases m⟩
  | x :: L, K, o, w, z, hr, hw, st, nk, nd, hl => by
    rw [List.length_cons] at hl
    have hv : Wd p ps (some x) ((wl ps x).getD w) := by
      cases e : wl ps x with
      | none => exact Wd_next e (by rw [hr.1]; exact hw)
      | some v => exact Wd_at e
    have b1 := bG_ok (K := K) (w := w) (a := a) hq hps (st x List.mem_cons_self) (nk x List.mem_cons_self) (by omega)
    generalize (wl ps x).getD w = v at hv b1
    obtain ⟨K', w', z', e1, e2, e3⟩ := backL hq hps L (K ++ [(x, v)]) (some x) v (.sh (sT x)) hr.2 hv (fun y m => st y (List.mem_cons_of_mem _ m)) (fun y m h => by
      rw [List.map_append] at h
      rcases List.mem_append.mp h with h | h
      · exact nk y (List.mem_cons_of_mem _ m) h
      · have : y = x := by simpa using h
        rw [this] at m
        exact (List.nodup_cons.mp nd).1 m) (List.nodup_cons.mp nd).2 (by rw [List.length_append, List.length_singleton]; omega)
    refine ⟨(x, v) :: K', w', z', ?_, by rw [List.map_cons, e2], fun y m => ?_⟩
    · rw [List.map_cons]
      unfold loopF
      simp only [setT, List.set_cons_succ, List.set_cons_zero]
      rw [b1]
      simp only
      rw [e1, List.append_assoc]
      rfl
    · rcases List.mem_cons.mp m with rfl | m
      · exact hv
      · exact e3 y m
theorem gone_back_ok {p q : Pg} {ps : List Pl} {vis : List (Nat × List Nat)} {K : Kn} {o : Option (Nat × List Nat)} {w : Str} (hq : q.ok) (hps : Pls p q ps) (hr : RPth p vis.reverse o) (hw : Wd p ps o w) (st : StA p vis) (nk : ∀ x ∈ vis, x ∉ K.map (·.1)) (nd : vis.Nodup) (hl : K.length + vis.length ≤ 4000) :
    ∃ K' : Kn, m_law_gone_back [lrT ps, .lst (vis.map sT), .str w, .non] (kD K) = .ok .non (kD (K ++ K')) ∧ K'.map (·.1) = vis.reverse ∧ ∀ y ∈ K', Wd p ps (some y.1) y.2 := by
  obtain ⟨K', w', z', e1, e2, e3⟩ := backL (a := .sh (.lst (vis.map sT))) hq hps vis.reverse K o w .un hr hw (fun x m => st x (List.mem_reverse.mp m)) (fun x m => nk x (List.mem_reverse.mp m)) ((List.reverse_perm vis).nodup_iff.mpr nd) (by rw [List.length_reverse]; exact hl)
  refine ⟨K', ?_, e2, e3⟩
  have hit : iIt (eU gRev (eW 1)) [.sh (lrT ps), .sh (.lst (vis.map sT)), .sh (.str w), .dp (kD K), .un] = .ok (vis.reverse.map sT) := by
    refine iIt_lst (eU_ok (x := .lst (vis.map sT)) rfl ?_)
    show some (T.lst (vis.map sT).reverse) = _
    rw [List.map_reverse]
  have e : b_law_gone_back [.sh (lrT ps), .sh (.lst (vis.map sT)), .sh (.str w), .dp (kD K), .un] = .nx [.sh (lrT ps), .sh (.lst (vis.map sT)), .sh (.str w'), .dp (kD (K ++ K')), z'] := sFor_ok hit e1
  show outB 3 (b_law_gone_back [.sh (lrT ps), .sh (.lst (vis.map sT)), .sh (.str w), .dp (kD K), .un]) = _
  rw [e]
  rfl
end K08

namespace K08
open PySem PySem.Spec PyProof.Rows L2 Evl VS
/-! ### is_safe, as the law has it -/
theorem itr_succ (p : Pg) : ∀ (k : Nat) (o : Option (Nat × List Nat)), itr p (k + 1) o = (itr p k o).bind (nxt p)
  | 0, none => rfl
  | 0, some s => rfl
  | k + 1, none => rfl
  | k + 1, some s => itr_succ p k (nxt p s)
structure Knows (p : Pg) (ps : List Pl) (K : Kn) : Prop where
  nd : (K.map (·.1)).Nodup
  st : StA p (K.map (·.1))
  wd : ∀ x ∈ K, Wd p ps (some x.1) x.2
  next : ∀ x ∈ K.map (·.1), ∀ y, nxt p x = some y → y ∈ K.map (·.1)
  come : ∀ x ∈ K.map (·.1), ∃ b ∈ begL p.M p.B, ∃ k, itr p k (some (0, b)) = some x
theorem Knows.itr {p : Pg} {ps : List Pl} {K : Kn} (h : Knows p ps K) : ∀ (k : Nat) (x y : Nat × List Nat), x ∈ K.map (·.1) → K08.itr p k (some x) = some y → y ∈ K.map (·.1)
  | 0, x, y, m, e => by cases e; exact m
  | k + 1, x, y, m, e => by
    have e : K08.itr p k (nxt p x) = some y := e
    cases f : nxt p x with
    | none => rw [f, itr_none] at e; cases e
    | some z =>
      rw [f] at e
      exact h.itr k z y (h.next x m z f) e
def cS : FE := (eAnd (eB gNotN' (eW 4) (eC .non)) (eAnd (eDtIn true 2 (eV 4)) (eDtIn true 5 (eV 4))))
def bS : FS := (sSeq (sDtPut 5 (eV 4) (eDtLen 5))
  (sSet 4 (eB gIx (eCall 2 m_law_step (aCons (eV 0) (aCons (eV 4) aNil))) (eC (.int 0)))))
theorem knIn_non {neg : Bool} {i : Nat} {fa : FE} {ρ : Ev'} {K : Kn} (h : ρ[i]? = some (.dp (kD K))) (ha : fa ρ = .ok .non) : eDtIn neg i fa ρ = .ok (.bl neg) := dtIn_non h ha
structure OnWay (p : Pg) (b : List Nat) (K : Kn) (vis : List (Nat × List Nat)) (o : Option (Nat × List Nat)) : Prop where
  nd : vis.Nodup
  st : StA p vis
  ap : ∀ x ∈ vis, x ∉ K.map (·.1)
  rp : RPth p vis.reverse o
  so : StO p o
  hd : (vis = [] ∧ o = some (0, b)) ∨ (0, b) ∈ vis
  cv : ∀ x ∈ vis, ∃ k, itr p k (some (0, b)) = some x
  co : ∃ k, itr p k (some (0, b)) = o
theorem loopS {p : Pg} {K : Kn} {b : List Nat} {z1 z3 z6 : Sl} (hp : p.ok) : ∀ (n : Nat) (vis : List (Nat × List Nat)) (o : Option (Nat × List Nat)), 2501 ≤ vis.length + n → OnWay p b K vis o →
    ∃ vis' o', whF cS bS n [.sh p.t, z1, .dp (kD K), z3, .sh (oS o), .dp (.dt (vis.map sT) (nT 0 vis.length)), z6] = .nx [.sh p.t, z1, .dp (kD K), z3, .sh (oS o'), .dp (.dt (vis'.map sT) (nT 0 vis'.length)), z6] ∧ OnWay p b K vis' o' ∧ ∀ s, o' = some s → s ∈ K.map (·.1) ∨ s ∈ vis' := by
  intro n
  induction n with
  | zero =>
    intro vis o hl w
    have := vis_len hp w.nd w.st
    omega
  | succ n ih =>
    intro vis o hl w
    cases o with
    | none =>
      have c : cS [.sh p.t, z1, .dp (kD K), z3, .sh .non, .dp (.dt (vis.map sT) (nT 0 vis.length)), z6] = .ok (.bl false) := eAnd_bl (a := false) (b := false) rfl fun z => by cases z
      exact ⟨vis, none, whF_f c, w, fun s e => by cases e⟩
    | some s =>
      have hs : St p s.1 s.2 := w.so
      have c : cS [.sh p.t, z1, .dp (kD K), z3, .sh (sT s), .dp (.dt (vis.map sT) (nT 0 vis.length)), z6] = .ok (.bl (true && ((!decide (s ∈ K.map (·.1))) && (!decide (s ∈ vis))))) :=
        eAnd_bl (a := true) rfl fun _ => eAnd_bl (knIn_ok (neg := true) (K := K) rfl rfl) fun _ => dtIn_ok (neg := true) rfl rfl
      by_cases mK : s ∈ K.map (·.1)
      · rw [decide_eq_true mK] at c
        exact ⟨vis, some s, whF_f c, w, fun x e => by cases e; exact .inl mK⟩
      · rw [decide_eq_false mK] at c
        by_cases mv : s ∈ vis
        · rw [decide_eq_true mv] at c
          exact ⟨vis, some s, whF_f c, w, fun x e => by cases e; exact .inr mv⟩
        · rw [decide_eq_false mv] at c
          have hv := vis_len hp w.nd w.st
          have hlt := hs.1
          have hr : p.rows[s.1]? = some p.rows[s.1] := List.getElem?_eq_getElem hs.1
          have h1 := lstep_ok hp hr hs.2
          have en : nxt p s = nx p s.1 s.2 p.rows[s.1] := by unfold nxt; rw [hr]
          have bb : bS [.sh p.t, z1, .dp (kD K), z3, .sh (sT s), .dp (.dt (vis.map sT) (nT 0 vis.length)), z6] = .nx [.sh p.t, z1, .dp (kD K), z3, .sh (oS (nxt p s)), .dp (.dt ((vis ++ [s]).map sT) (nT 0 (vis ++ [s]).length)), z6] := by
            unfold bS
            generalize m_law_step = F at *
            refine pSeq (P := fun o => o = .nx _) (dtPut_ok rfl (dtLen_ok rfl) rfl mv (by omega)) ?_
            simp only [List.set_cons_succ, List.set_cons_zero]
            have h2 : eCall 2 F (aCons (eV 0) (aCons (eV 4) aNil)) [.sh p.t, z1, .dp (kD K), z3, .sh (sT s), .dp (.dt ((vis ++ [s]).map sT) (nT 0 (vis ++ [s]).length)), z6] = .ok (stepT p s.1 s.2 p.rows[s.1]) := eCall_ok (aCons_ok rfl (aCons_ok rfl rfl)) rfl h1
            rw [sSet_ok (eB_ok h2 rfl (show gIx (stepT p s.1 s.2 p.rows[s.1]) (.int 0) = some (oS (nxt p s)) from by rw [en]; rfl))]
            rfl
          obtain ⟨nd', st'⟩ := vis_snoc w.nd w.st hs mv
          obtain ⟨k, hk⟩ := w.co
          obtain ⟨vis', o', e1, e2, e3⟩ := ih (vis ++ [s]) (nxt p s) (by rw [List.length_append, List.length_singleton]; omega) {
            nd := nd'
            st := st'
            ap := fun x m => by
              rcases List.mem_append.mp m with m | m
              · exact w.ap x m
              · rw [List.mem_singleton.mp m]; exact mK
            rp := by
              rw [List.reverse_append]
              exact ⟨rfl, w.rp⟩
            so := nxt_ok hp hs
            hd := by
              rcases w.hd with ⟨rfl, e⟩ | m
              · cases e; exact .inr (List.mem_singleton.mpr rfl)
              · exact .inr (List.mem_append_left _ m)
            cv := fun x m => by
              rcases List.mem_append.mp m with m | m
              · exact w.cv x m
              · rw [List.mem_singleton.mp m]; exact ⟨k, hk⟩
            co := ⟨k + 1, by rw [itr_succ, hk]; rfl⟩ }
          exact ⟨vis', o', by
            show whF cS bS (n + 1) [.sh p.t, z1, .dp (kD K), z3, .sh (sT s), .dp (.dt (vis.map sT) (nT 0 vis.length)), z6] = _
            rw [whF_nx c bb, e1], e2, e3⟩
end K08

namespace K08
open PySem PySem.Spec PyProof.Rows L2 Evl VS
def tS : FS := (sSeq (sSet 6 (eC (.str "over")))
  (sSeq (sIf (eDtIn false 2 (eV 4)) (sSet 6 (eDtGet 2 (eV 4))) sNx)
  (sSeq (sIf (eDtIn false 5 (eV 4)) (sSet 6 (eB gIx (eCall 3 m_law_met (aCons (eV 0) (aCons (eV 1) (aCons (eV 4) aNil)))) (eC (.int 0)))) sNx)
  (sExpB 2 4 m_law_gone_back (aCons (eV 1) (aCons (eDtKeys 5) (aCons (eV 6) (aCons (eC .non) aNil))))))))
theorem ifN_f {fc : FE} {f : FS} {ρ : Ev'} (h : fc ρ = .ok (.bl false)) : sIf fc f sNx ρ = .nx ρ := ifE_f h rfl
theorem kn_len {p : Pg} {K : Kn} {ps : List Pl} (hp : p.ok) (hK : Knows p ps K) {vis : List (Nat × List Nat)} (nd : vis.Nodup) (st : StA p vis) (ap : ∀ x ∈ vis, x ∉ K.map (·.1)) : K.length + vis.length ≤ 2500 := by
  have h := vis_len hp (vis := K.map (·.1) ++ vis) (List.nodup_append.mpr ⟨hK.nd, nd, fun a ha b hb e => ap b hb (by rw [← e]; exact ha)⟩) fun x m => by
    rcases List.mem_append.mp m with m | m
    · exact hK.st x m
    · exact st x m
  rw [List.length_append, List.length_map] at h
  exact h
theorem knGet_ok {i : Nat} {fk : FE} {ρ : Ev'} {K : Kn} {s : Nat × List Nat} (h : ρ[i]? = some (.dp (kD K))) (hk : fk ρ = .ok (sT s)) (hm : s ∈ K.map (·.1)) : ∃ w, (s, w) ∈ K ∧ eDtGet i fk ρ = .ok (.str w) := by
  obtain ⟨w, h1, h2⟩ := look_kD K s hm
  refine ⟨w, h1, ?_⟩
  unfold eDtGet
  rw [h]
  show ((fk ρ).bind fun k => (match tk? k with | some _ => Res.of (lookK (K.map fun x : (Nat × List Nat) × Str => sT x.1) (K.map fun x : (Nat × List Nat) × Str => T.str x.2) k) | none => .bad)) = _
  rw [hk]
  show (match tk? (sT s) with | some _ => Res.of (lookK (K.map fun x : (Nat × List Nat) × Str => sT x.1) (K.map fun x : (Nat × List Nat) × Str => T.str x.2) (sT s)) | none => .bad) = _
  rw [tk_sT]
  show Res.of (lookK (K.map fun x : (Nat × List Nat) × Str => sT x.1) (K.map fun x : (Nat × List Nat) × Str => T.str x.2) (sT s)) = _
  rw [h2]
  rfl
/-- what is known with the way gone back -/
theorem Knows.add {p : Pg} {ps : List Pl} {K K' : Kn} {b : List Nat} {vis : List (Nat × List Nat)} {o : Option (Nat × List Nat)} (hK : Knows p ps K) (w : OnWay p b K vis o) (hb : b ∈ begL p.M p.B) (hend : ∀ s, o = some s → s ∈ K.map (·.1) ∨ s ∈ vis) (e2 : K'.map (·.1) = vis.reverse) (e3 : ∀ y ∈ K', Wd p ps (some y.1) y.2) :
    Knows p ps (K ++ K') ∧ (∀ x ∈ K.map (·.1), x ∈ (K ++ K').map (·.1)) ∧ (0, b) ∈ (K ++ K').map (·.1) := by
  have em : (K ++ K').map (·.1) = K.map (·.1) ++ vis.reverse := by rw [List.map_append, e2]
  have mv : ∀ x, x ∈ (K ++ K').map (·.1) ↔ x ∈ K.map (·.1) ∨ x ∈ vis := fun x => by rw [em, List.mem_append, List.mem_reverse]
  refine ⟨⟨?_, fun x m => ?_, fun x m => ?_, fun x m y e => ?_, fun x m => ?_⟩, fun x m => (mv x).mpr (.inl m), (mv _).mpr ?_⟩
  · rw [em]
    exact List.nodup_append.mpr ⟨hK.nd, (List.reverse_perm vis).nodup_iff.mpr w.nd, fun a ha c hc e => w.ap c (List.mem_reverse.mp hc) (by rw [← e]; exact ha)⟩
  · rcases (mv x).mp m with m | m
    · exact hK.st x m
    · exact w.st x m
  · rcases List.mem_append.mp m with m | m
    · exact hK.wd x m
    · exact e3 x m
  · rcases (mv x).mp m with m | m
    · exact (mv y).mpr (.inl (hK.next x m y e))
    · rcases RPth_next w.rp x (List.mem_reverse.mpr m) with q | ⟨z, hz, q⟩
      · rcases hend y (q.symm.trans e) with r | r
        · exact (mv y).mpr (.inl r)
        · exact (mv y).mpr (.inr r)
      · rw [q] at e
        cases e
        exact (mv _).mpr (.inr (List.mem_reverse.mp hz))
  · rcases (mv x).mp m with m | m
    · exact hK.come x m
    · exact ⟨b, hb, w.cv x m⟩
  · rcases w.hd with ⟨rfl, e⟩ | m
    · rcases hend _ e with r | r
      · exact .inl r
      · cases r
    · exact .inr m
theorem tS_ok {p q : Pg} {ps : List Pl} {K : Kn} {b : List Nat} {vis : List (Nat × List Nat)} {o : Option (Nat × List Nat)} {z3 z6 : Sl} (hp : p.ok) (hq : q.ok) (hps : Pls p q ps) (hK : Knows p ps K) (w : OnWay p b K vis o) (hb : b ∈ begL p.M p.B) (hend : ∀ s, o = some s → s ∈ K.map (·.1) ∨ s ∈ vis) :
    ∃ K' z6', tS [.sh p.t, .sh (lrT ps), .dp (kD K), z3, .sh (oS o), .dp (.dt (vis.map sT) (nT 0 vis.length)), z6] = .nx [.sh p.t, .sh (lrT ps), .dp (kD K'), z3, .sh (oS o), .dp (.dt (vis.map sT) (nT 0 vis.length)), z6'] ∧ Knows p ps K' ∧ (∀ x ∈ K.map (·.1), x ∈ K'.map (·.1)) ∧ (0, b) ∈ K'.map (·.1) := by
  have hl := kn_len hp hK w.nd w.st w.ap
  -- what is left when the word is known
  have fin : ∀ v, Wd p ps o v → ∃ K' z6', sExpB 2 4 m_law_gone_back (aCons (eV 1) (aCons (eDtKeys 5) (aCons (eV 6) (aCons (eC .non) aNil)))) [.sh p.t, .sh (lrT ps), .dp (kD K), z3, .sh (oS o), .dp (.dt (vis.map sT) (nT 0 vis.length)), .sh (.str v)] = .nx [.sh p.t, .sh (lrT ps), .dp (kD K'), z3, .sh (oS o), .dp (.dt (vis.map sT) (nT 0 vis.length)), z6'] ∧ Knows p ps K' ∧ (∀ x ∈ K.map (·.1), x ∈ K'.map (·.1)) ∧ (0, b) ∈ K'.map (·.1) := fun v hv => by
    obtain ⟨K', e1, e2, e3⟩ := gone_back_ok (K := K) hq hps w.rp hv w.st w.ap w.nd (by omega)
    generalize m_law_gone_back = F at *
    obtain ⟨h1, h2, h3⟩ := hK.add w hb hend e2 e3
    refine ⟨K ++ K', .sh (.str v), ?_, h1, h2, h3⟩
    unfold sExpB
    exact runB_ok (ts := [lrT ps, .lst (vis.map sT), .str v, .non]) (d := kD K) (d' := kD (K ++ K')) (t := .non) (aCons_ok rfl (aCons_ok rfl (aCons_ok rfl (aCons_ok rfl rfl)))) rfl rfl rfl e1
  have hM : ∀ s, St p s.1 s.2 → m_law_met [p.t, lrT ps, sT s] = .ok (metT p ps s) := fun s hs => lmet_ok hp hq hps hs
  unfold tS
  generalize m_law_gone_back = F at *
  generalize m_law_met = F2 at *
  rw [sSeq_nx (sSet_ok (t := .str "over") rfl)]
  simp only [List.set_cons_succ, List.set_cons_zero]
  cases o with
  | none =>
    have c1 : eDtIn false 2 (eV 4) [.sh p.t, .sh (lrT ps), .dp (kD K), z3, .sh (oS none), .dp (.dt (vis.map sT) (nT 0 vis.length)), .sh (.str "over")] = .ok (.bl false) := knIn_non rfl rfl
    have c2 : eDtIn false 5 (eV 4) [.sh p.t, .sh (lrT ps), .dp (kD K), z3, .sh (oS none), .dp (.dt (vis.map sT) (nT 0 vis.length)), .sh (.str "over")] = .ok (.bl false) := dtIn_non rfl rfl
    rw [sSeq_nx (ifN_f c1), sSeq_nx (ifN_f c2)]
    exact fin "over" (Wd_over p ps)
  | some s =>
    have hs : St p s.1 s.2 := w.so
    have c1 : ∀ z, eDtIn false 2 (eV 4) [.sh p.t, .sh (lrT ps), .dp (kD K), z3, .sh (oS (some s)), .dp (.dt (vis.map sT) (nT 0 vis.length)), z] = .ok (.bl (decide (s ∈ K.map (·.1)))) := fun z => knIn_ok (neg := false) (K := K) rfl rfl
    have c2 : ∀ z, eDtIn false 5 (eV 4) [.sh p.t, .sh (lrT ps), .dp (kD K), z3, .sh (oS (some s)), .dp (.dt (vis.map sT) (nT 0 vis.length)), z] = .ok (.bl (decide (s ∈ vis))) := fun z => dtIn_ok (neg := false) rfl rfl
    by_cases mK : s ∈ K.map (·.1)
    · have mv : ¬ s ∈ vis := fun m => w.ap s m mK
      rw [decide_eq_true mK] at c1
      rw [decide_eq_false mv] at c2
      obtain ⟨v, hv1, hv2⟩ := knGet_ok (i := 2) (fk := eV 4) (ρ := [.sh p.t, .sh (lrT ps), .dp (kD K), z3, .sh (oS (some s)), .dp (.dt (vis.map sT) (nT 0 vis.length)), .sh (.str "over")]) rfl rfl mK
      rw [sSeq_nx (ifE_t (c1 _) (sSet_ok hv2))]
      simp only [List.set_cons_succ, List.set_cons_zero]
      rw [sSeq_nx (ifN_f (c2 _))]
      exact fin v (hK.wd _ hv1)
    · have mv : s ∈ vis := (hend s rfl).resolve_left mK
      rw [decide_eq_false mK] at c1
      rw [decide_eq_true mv] at c2
      obtain ⟨v, zs, hv1, hv2⟩ := metT_wd (ps := ps) hp hs
      have h1 := hM s hs
      rw [hv1] at h1
      have h2 : eB gIx (eCall 3 F2 (aCons (eV 0) (aCons (eV 1) (aCons (eV 4) aNil)))) (eC (.int 0)) [.sh p.t, .sh (lrT ps), .dp (kD K), z3, .sh (oS (some s)), .dp (.dt (vis.map sT) (nT 0 vis.length)), .sh (.str "over")] = .ok (.str v) :=
        eB_ok (eCall_ok (aCons_ok rfl (aCons_ok rfl (aCons_ok rfl rfl))) rfl h1) rfl (by rw [gIx_tup]; exact VS.atI_nat _ 0)
      rw [sSeq_nx (ifN_f (c1 _)), sSeq_nx (ifE_t (c2 _) (sSet_ok h2))]
      simp only [List.set_cons_succ, List.set_cons_zero]
      exact fin v hv2
end K08

namespace K08
open PySem PySem.Spec PyProof.Rows L2 Evl VS
def SafeB (K : Kn) : Bool := !(K.any fun x => x.2 == "stuck") && !(K.any fun x => x.2 == "missed")
theorem strs_kD : ∀ K : Kn, strs? (K.map fun x : (Nat × List Nat) × Str => T.str x.2) = some (K.map (·.2))
  | [] => rfl
  | a :: K => by
    show (strs? (K.map fun x : (Nat × List Nat) × Str => T.str x.2)).map (a.2 :: ·) = _
    rw [strs_kD K]
    rfl
theorem vnin_kD {i : Nat} {fa : FE} {ρ : Ev'} {K : Kn} {w : Str} (h : ρ[i]? = some (.dp (kD K))) (ha : fa ρ = .ok (.str w)) : eVnin i fa ρ = .ok (.bl (!(K.any fun x => x.2 == w))) := by
  unfold eVnin
  rw [ha, h]
  show (match strs? (K.map fun x : (Nat × List Nat) × Str => T.str x.2) with | some l => Res.ok (T.bl (!(l.any fun z => z == w))) | none => .bad) = _
  rw [strs_kD]
  show Res.ok (T.bl (!((K.map (·.2)).any fun z => z == w))) = _
  rw [List.any_map]
  rfl
theorem is_safe_ok {p q : Pg} {ps : List Pl} (hp : p.ok) (hq : q.ok) (hps : Pls p q ps) : ∃ K, m_law_is_safe [p.t, lrT ps] = .ok (.bl (SafeB K)) ∧ Knows p ps K ∧ ∀ b ∈ begL p.M p.B, (0, b) ∈ K.map (·.1) := by
  have h1 := law_begins_ok hp
  have hn := hp.n1
  suffices h : VS.Good (fun t => ∃ K, t = .bl (SafeB K) ∧ Knows p ps K ∧ ∀ b ∈ begL p.M p.B, (0, b) ∈ K.map (·.1)) (b_law_is_safe [.sh p.t, .sh (lrT ps), .un, .un, .un, .un, .un]) by
    obtain ⟨t, e, K, rfl, h2, h3⟩ := h
    exact ⟨K, fDef_rt e, h2, h3⟩
  unfold b_law_is_safe
  have hloop := fun (K : Kn) (b : List Nat) (z3 z6 : Sl) (hb : Nums p b) => loopS (p := p) (K := K) (b := b) (z1 := .sh (lrT ps)) (z3 := z3) (z6 := z6) hp 3000 [] (some (0, b)) (by decide)
    { nd := List.nodup_nil, st := (fun x m => nomatch m), ap := (fun x m => nomatch m), rp := trivial, so := ⟨hn, hb⟩, hd := .inl ⟨rfl, rfl⟩, cv := (fun x m => nomatch m), co := ⟨0, rfl⟩ }
  have htail := fun (K : Kn) (b : List Nat) (vis : List (Nat × List Nat)) (o : Option (Nat × List Nat)) (z3 z6 : Sl) hK w hb hend => tS_ok (p := p) (q := q) (ps := ps) (K := K) (b := b) (vis := vis) (o := o) (z3 := z3) (z6 := z6) hp hq hps hK w hb hend
  unfold tS at htail
  unfold bS cS at hloop
  generalize m_law_begins = F1 at *
  generalize m_law_step = F2 at *
  generalize m_law_met = F3 at *
  generalize m_law_gone_back = F4 at *
  refine pSeq (P := VS.Good _) (f := sNewDt 2) rfl ?_
  refine pFor (P := VS.Good _) (α := List Nat) (u := numsT) (fun r ρ => ∃ A K z3 z4 z5 z6, begL p.M p.B = A ++ r ∧ Knows p ps K ∧ (∀ b ∈ A, (0, b) ∈ K.map (·.1)) ∧ ρ = [.sh p.t, .sh (lrT ps), .dp (kD K), z3, z4, z5, z6]) (l := begL p.M p.B) (iIt_lst (eCall_ok (aCons_ok rfl rfl) rfl h1))
    ⟨[], [], .un, .un, .un, .un, rfl, ⟨List.nodup_nil, fun x m => (nomatch m), fun x m => (nomatch m), fun x m => (nomatch m), fun x m => (nomatch m)⟩, fun b m => (nomatch m), rfl⟩ ?_ ?_
  · rintro b r ρ ⟨A, K, z3, z4, z5, z6, e, hK, hA, rfl⟩
    have hb : b ∈ begL p.M p.B := by rw [e]; simp
    have hN : Nums p b := begL_mem.mp hb
    refine ⟨[.sh p.t, .sh (lrT ps), .dp (kD K), .sh (numsT b), z4, z5, z6], rfl, ?_⟩
    obtain ⟨vis, o, e1, w, hend⟩ := hloop K b (.sh (numsT b)) z6 hN
    obtain ⟨K', z6', e2, hK', sub, m0⟩ := htail K b vis o (.sh (numsT b)) z6 hK w hb hend
    refine .inl ⟨[.sh p.t, .sh (lrT ps), .dp (kD K'), .sh (numsT b), .sh (oS o), .dp (.dt (vis.map sT) (nT 0 vis.length)), z6'], ?_, A ++ [b], K', _, _, _, _, by rw [List.append_assoc]; exact e, hK', fun x m => ?_, rfl⟩
    · rw [sSeq_nx (sSet_ok (t := sT (0, b)) (eTup_ok (aCons_ok rfl (aCons_ok rfl rfl)) (by show 2 ≤ 1000; decide)))]
      simp only [List.set_cons_succ, List.set_cons_zero]
      rw [sSeq_nx (show sNewDt 5 [.sh p.t, .sh (lrT ps), .dp (kD K), .sh (numsT b), .sh (sT (0, b)), z5, z6] = .nx [.sh p.t, .sh (lrT ps), .dp (kD K), .sh (numsT b), .sh (sT (0, b)), .dp (.dt [] []), z6] from rfl)]
      rw [sSeq_nx (show sWhile 3000 _ _ [.sh p.t, .sh (lrT ps), .dp (kD K), .sh (numsT b), .sh (sT (0, b)), .dp (.dt [] []), z6] = .nx _ from e1)]
      exact e2
    · rcases List.mem_append.mp m with m | m
      · exact sub _ (hA x m)
      · rw [List.mem_singleton.mp m]; exact m0
  · rintro ρ ⟨A, K, z3, z4, z5, z6, e, hK, hA, rfl⟩
    rw [List.append_nil] at e
    exact pRet (P := VS.Good _) (eAnd_bl (vnin_kD rfl rfl) fun _ => vnin_kD rfl rfl) ⟨_, rfl, K, rfl, hK, by rw [e]; exact hA⟩
theorem any_str {K : Kn} {w : Str} : (K.any fun x => x.2 == w) = true ↔ ∃ x ∈ K, x.2 = w := by
  rw [List.any_eq_true]
  constructor
  · rintro ⟨x, m, e⟩; exact ⟨x, m, eq_of_beq e⟩
  · rintro ⟨x, m, e⟩; exact ⟨x, m, beq_iff_eq.mpr e⟩
/-- the answer that a program that is safe has -/
theorem safe_is {p : Pg} {ps : List Pl} {K : Kn} {F : List (Nat × List Nat)} (hK : Knows p ps K) (hF : Fine p ps F) (hb : ∀ b ∈ begL p.M p.B, (0, b) ∈ F) : SafeB K = true := by
  have h : ∀ w : Str, w = "stuck" ∨ w = "missed" → (K.any fun x => x.2 == w) = false := fun w hw => by
    cases e : K.any fun x => x.2 == w with
    | false => rfl
    | true =>
      obtain ⟨x, m, rfl⟩ := any_str.mp e
      obtain ⟨b, hb1, k, hk⟩ := hK.come x.1 (List.mem_map_of_mem m)
      have g := Good_not (hF.good x.1 (hF.itr k _ _ (hb b hb1) hk)) (hK.wd x m)
      rcases hw with hw | hw <;> rcases g with g | g <;> (rw [hw] at g; exact absurd g (by decide))
  unfold SafeB
  rw [h _ (.inl rfl), h _ (.inr rfl)]
  rfl
theorem unsafe_is {p : Pg} {ps : List Pl} {K : Kn} {b : List Nat} {k : Nat} {s : Nat × List Nat} {w : Str} (hK : Knows p ps K) (hb : (0, b) ∈ K.map (·.1)) (hi : itr p k (some (0, b)) = some s) (hw : Wd p ps (some s) w) (h2 : w = "stuck" ∨ w = "missed") : SafeB K = false := by
  obtain ⟨x, m, e⟩ := List.mem_map.mp (hK.itr k _ _ hb hi)
  have hx := hK.wd x m
  rw [e] at hx
  have hw2 := Wd_uniq hx hw
  unfold SafeB
  rcases h2 with h2 | h2
  · rw [any_str.mpr ⟨x, m, hw2.trans h2⟩]
    rfl
  · rw [any_str.mpr ⟨x, m, hw2.trans h2⟩, Bool.and_comm]
    rfl
end K08

namespace K08
open PySem PySem.Spec PyProof.Rows L2 Evl VS
/-! ### right -/
theorem iRg_big {fa : FE} {ρ : Ev'} {n : Nat} (h : fa ρ = .ok (.int (n : Nat))) (hn : n ≤ 4000) : iRg fa ρ = .ok ((List.range n).map fun i => .int (i : Nat)) := by
  have hb : ((n : Nat) : Int) ≤ 100000 := Int.ofNat_le.mpr (Nat.le_of_lt (lt_big4 hn))
  have hb0 : (-100000 : Int) ≤ (n : Nat) := by omega
  unfold iRg
  rw [h]
  simp [Res.bind, hb, hb0]
theorem law_states_ok {p : Pg} (h : p.ok) : m_law_states [p.t] = .ok (.int (p.rows.length * (p.M + 1) ^ p.B : Nat)) := by
  refine fDef_rt ?_
  show b_law_states [.sh p.t, .un, .un] = _
  unfold b_law_states
  have hb3 := h.b3
  have p0 : gIx p.t (.int 0) = some (.int p.B) := rfl
  have p1 : gIx p.t (.int 1) = some (.int p.M) := rfl
  have p2 : gIx p.t (.int 2) = some (.lst (p.rows.map Rw.t)) := rfl
  refine pSet (P := fun o => o = .rt _) (eU_ok (eB_ok rfl rfl p2) (gLen_map _ _)) ?_
  simp only [List.set_cons_succ, List.set_cons_zero]
  refine pForR (P := fun o => o = .rt _) (N := p.B) (fun k ρ => ∃ x2, ρ = [.sh p.t, .sh (.int (p.rows.length * (p.M + 1) ^ k : Nat)), x2]) (iRg_ok (eB_ok rfl rfl p0) (by omega)) ⟨_, by rw [Nat.pow_zero, Nat.mul_one]⟩ ?_ ?_
  · rintro k hk ρ ⟨x2, rfl⟩
    simp only [List.set_cons_succ, List.set_cons_zero]
    refine ⟨[.sh p.t, .sh (.int (p.rows.length * (p.M + 1) ^ (k + 1) : Nat)), .sh (.int (k : Nat))], ?_, _, rfl⟩
    have e : ((p.rows.length * (p.M + 1) ^ k : Nat) : Int) * ((p.M : Int) + 1) = ((p.rows.length * (p.M + 1) ^ (k + 1) : Nat) : Int) := by
      rw [Nat.pow_succ, ← Nat.mul_assoc, Int.natCast_mul (p.rows.length * (p.M + 1) ^ k), Int.natCast_add]
      rfl
    generalize p.rows.length * (p.M + 1) ^ k = a at *
    generalize p.rows.length * (p.M + 1) ^ (k + 1) = c at *
    have g1 : gAdd (.int p.M) (.int 1) = some (.int ((p.M : Int) + 1)) := rfl
    have g2 : gMul (.int (a : Nat)) (.int ((p.M : Int) + 1)) = some (.int (c : Nat)) := by
      have hm4 := h.m4
      rw [← e]
      simp only [gMul]
      rw [if_pos (Or.inr ⟨by omega, by omega⟩)]
    exact sSet_ok (eB_ok rfl (eB_ok (eB_ok rfl rfl p1) rfl g1) g2)
  · rintro ρ ⟨x2, rfl⟩
    exact pRet (P := fun o => o = .rt _) rfl rfl
theorem plain_seq {n : Nat} {t : T} {l : List T} (ht : t = .tup l ∨ t = .lst l) (hl : l.length ≤ 99999) (h : ∀ x ∈ l, r_law_plain n [x] = .ok (.bl true)) : r_law_plain (n + 1) [t] = .ok (.bl true) := by
  refine fDef_rt ?_
  show b_law_plain (r_law_plain n) [.sh t, .un] = _
  unfold b_law_plain
  generalize r_law_plain n = F at *
  have hI : gIsi2 "tuple" "list" t = some (.bl true) := by rcases ht with rfl | rfl <;> rfl
  have hi : iIt (eV 0) [.sh t, .un] = .ok l := by rcases ht with rfl | rfl <;> rfl
  have e := eAll_comp (fi := iIt (eV 0)) (i := 1) (is := [1]) (fe := eCall 1 F (aCons (eV 1) aNil)) (ρ := [.sh t, .un]) (l := l) (f := fun _ => true) hi hl fun x m => eCall_ok (aCons_ok rfl rfl) rfl (h x m)
  refine pIfT (P := fun o => o = .rt _) (eU_ok rfl hI) ?_
  exact pRetS (P := fun o => o = .rt _) e (by simp)
theorem plain_leaf {n : Nat} {t : T} (h1 : gIsi2 "tuple" "list" t = some (.bl false)) (h2 : gIsi "bool" t = some (.bl false)) : r_law_plain (n + 1) [t] = .ok (.bl true) := by
  refine fDef_rt ?_
  show b_law_plain (r_law_plain n) [.sh t, .un] = _
  unfold b_law_plain
  generalize r_law_plain n = F at *
  refine pIfF (P := fun o => o = .rt _) (eU_ok rfl h1) ?_
  refine pNx (P := fun o => o = .rt _) ?_
  exact pRet (P := fun o => o = .rt _) (eNot_bl (eU_ok rfl h2)) rfl
theorem plain_nums {n : Nat} {l : List Nat} (hl : l.length ≤ 1000) : r_law_plain (n + 2) [numsT l] = .ok (.bl true) :=
  plain_seq (l := l.map fun n => T.int (n : Nat)) (.inl rfl) (by rw [List.length_map]; exact le_big9 hl) fun x m => by
    obtain ⟨k, _, rfl⟩ := List.mem_map.mp m
    exact plain_leaf rfl rfl
theorem plain_found {w : Str} {b : List Nat} {k : Nat} (hl : b.length ≤ 1000) : m_law_plain [.tup [.str w, numsT b, .int (k : Nat)]] = .ok (.bl true) :=
  plain_seq (n := 7) (.inl rfl) (by show 3 ≤ 99999; decide) fun x m => by
    rcases List.mem_cons.mp m with rfl | m
    · exact plain_leaf rfl rfl
    · rcases List.mem_cons.mp m with rfl | m
      · exact plain_nums hl
      · rw [List.mem_singleton.mp m]; exact plain_leaf rfl rfl
theorem plain_begins {M B : Nat} (hB : B ≤ 1000) (hl : (begL M B).length ≤ 1000) : m_law_plain [.lst ((begL M B).map numsT)] = .ok (.bl true) :=
  plain_seq (n := 7) (.inr rfl) (by rw [List.length_map]; exact le_big9 hl) fun x m => by
    obtain ⟨l, h, rfl⟩ := List.mem_map.mp m
    exact plain_nums (by rw [(begL_mem.mp h).1]; exact hB)
end K08

namespace K08
open PySem PySem.Spec PyProof.Rows L2 Evl VS
theorem tk_numsT (l : List Nat) : tk? (numsT l) = some (.tup (keyN l)) := by
  have d : (NestedKey.tup (keyN l)).depth ≤ 8 := by
    simp [NestedKey.depth, depth_nums]
  unfold numsT tk?
  simp only [nks_nums]
  rw [if_pos d]
theorem inK_begins {b : List Nat} {L : List (List Nat)} (h : b ∈ L) : gInK true (numsT b) (.lst (L.map numsT)) = some (.bl false) := by
  show (if (tk? (numsT b)).isSome && (L.map numsT).all (fun z => (tk? z).isSome) then some (T.bl (if true then !((L.map numsT).any fun z => tkEq z (numsT b)) else (L.map numsT).any fun z => tkEq z (numsT b))) else none) = _
  have a1 : (L.map numsT).all (fun z => (tk? z).isSome) = true := by
    rw [List.all_map, List.all_eq_true]
    intro x _
    show (tk? (numsT x)).isSome = true
    rw [tk_numsT]
    rfl
  have a2 : ((L.map numsT).any fun z => tkEq z (numsT b)) = true := by
    rw [List.any_map, List.any_eq_true]
    exact ⟨b, h, by show tkEq (numsT b) (numsT b) = true; unfold tkEq; exact decide_eq_true rfl⟩
  rw [a1, a2, tk_numsT]
  rfl
theorem itr_ok {p : Pg} (h : p.ok) : ∀ (n : Nat) {o : Option (Nat × List Nat)}, StO p o → StO p (itr p n o)
  | 0, _, h => h
  | n + 1, none, _ => trivial
  | n + 1, some s, hs => itr_ok h n (nxt_ok h hs)
theorem right_ok {p q : Pg} {ps : List Pl} {t : T} {K : Kn} (hp : p.ok) (hq : q.ok) (hps : Pls p q ps) (ht : LookQ p ps t) (hK : Knows p ps K) (hb : ∀ b ∈ begL p.M p.B, (0, b) ∈ K.map (·.1)) : m_law_right [p.t, lrT ps, t, .bl (SafeB K)] = .ok (.bl true) := by
  refine fDef_rt ?_
  rcases ht with ⟨rfl, F, hF, hFb⟩ | ⟨w, b, k, s, rfl, hbm, hw, hk, hs, hd, hl⟩
  · rw [safe_is hK hF hFb]
    show b_law_right [.sh p.t, .sh (lrT ps), .sh (.tup [.str "safe"]), .sh (.bl true), .un, .un] = _
    unfold b_law_right
    refine pIfT (P := fun o => o = .rt _) (eOr_bl (a := false) (b := true) (eNot_bl (a := true) (eU_ok rfl rfl)) fun _ => rfl) ?_
    exact pRetS (P := fun o => o = .rt _) (eB_ok rfl (eTup_ok (aCons_ok rfl rfl) (by show 1 ≤ 1000; decide)) (gEq_refl (by decide +kernel))) rfl
  · rw [unsafe_is hK (hb b hbm) hk hd hw]
    show b_law_right [.sh p.t, .sh (lrT ps), .sh (.tup [.str w, numsT b, .int (k : Nat)]), .sh (.bl false), .un, .un] = _
    unfold b_law_right
    have hN : Nums p b := begL_mem.mp hbm
    have hB := hp.b3
    have h1 := law_begins_ok hp
    have h2 := inK_begins hbm
    have h3 := plain_found (w := w) (b := b) (k := k) (by rw [hN.1]; omega)
    have h4 := law_states_ok hp
    have h5 := lmet_ok hp hq hps hs
    obtain ⟨w', zs, m1, m2⟩ := metT_wd (ps := ps) hp hs
    have ew := Wd_uniq m2 hd
    subst ew
    rw [m1] at h5
    have hst : ∀ {i : Nat} {l : List Nat} {r : Rw}, p.rows[i]? = some r → Nums p l → m_law_step [p.t, stT i l] = .ok (stepT p i l r) := fun hi hl => lstep_ok hp hi hl
    have hkk : k ≤ 4000 := by
      have : p.rows.length * (p.M + 1) ^ p.B ≤ 2500 := by
        have a := begL_125 hp (n := p.B) (Nat.le_refl _)
        rw [begL_len] at a
        exact Nat.mul_le_mul hp.n20 a
      omega
    generalize p.rows.length * (p.M + 1) ^ p.B = U at *
    generalize m_law_begins = F1 at *
    generalize m_law_plain = F2 at *
    generalize m_law_states = F3 at *
    generalize m_law_step = F4 at *
    generalize m_law_met = F5 at *
    have g0 : gIx (.tup [.str w', numsT b, .int (k : Nat)]) (.int 0) = some (.str w') := rfl
    have g1 : gIx (.tup [.str w', numsT b, .int (k : Nat)]) (.int 1) = some (numsT b) := rfl
    have g2 : gIx (.tup [.str w', numsT b, .int (k : Nat)]) (.int 2) = some (.int (k : Nat)) := rfl
    have i1 : gIsi "int" (.int (k : Nat)) = some (.bl true) := rfl
    refine pIfF (P := fun o => o = .rt _) (eOr_bl (a := false) (b := false) (eNot_bl (a := true) (eU_ok rfl rfl)) fun _ => rfl) ?_
    refine pNx (P := fun o => o = .rt _) ?_
    have c2 : ∀ z4 z5, (eOr (eB gNe (eU gLen (eW 2)) (eC (.int 3))) (eOr (eB (gInK true) (eB gIx (eW 2) (eC (.int 1))) (eCall 1 F1 (aCons (eV 0) aNil))) (eNot (eU (gIsi "int") (eB gIx (eW 2) (eC (.int 2))))))) [.sh p.t, .sh (lrT ps), .sh (.tup [.str w', numsT b, .int (k : Nat)]), .sh (.bl false), z4, z5] = .ok (.bl (false || (false || !true))) := fun z4 z5 =>
      eOr_bl (eB_ok (eU_ok rfl rfl) rfl rfl) fun _ => eOr_bl (eB_ok (eB_ok rfl rfl g1) (eCall_ok (aCons_ok rfl rfl) rfl h1) h2) fun _ => eNot_bl (eU_ok (eB_ok rfl rfl g2) i1)
    refine pIfF (P := fun o => o = .rt _) (c2 _ _) ?_
    refine pNx (P := fun o => o = .rt _) ?_
    have l1 : gLe (.int 0) (.int (k : Nat)) = some (.bl true) := by
      show some (T.bl (decide ((0 : Int) ≤ (k : Nat)))) = _
      rw [decide_eq_true (Int.natCast_nonneg k)]
    have l2 : gLt (.int (k : Nat)) (.int (U : Nat)) = some (.bl true) := by
      show some (T.bl (decide (((k : Nat) : Int) < (U : Nat)))) = _
      rw [decide_eq_true (Int.ofNat_lt.mpr hl)]
    have cc : ∀ z4 z5, eCh gLe gLt (eC (.int 0)) (eB gIx (eW 2) (eC (.int 2))) (eCall 1 F3 (aCons (eV 0) aNil)) [.sh p.t, .sh (lrT ps), .sh (.tup [.str w', numsT b, .int (k : Nat)]), .sh (.bl false), z4, z5] = .ok (.bl true) := fun z4 z5 => by
      have e1 : eB gIx (eW 2) (eC (.int 2)) [.sh p.t, .sh (lrT ps), .sh (.tup [.str w', numsT b, .int (k : Nat)]), .sh (.bl false), z4, z5] = .ok (.int (k : Nat)) := eB_ok rfl rfl g2
      have e2 : eCall 1 F3 (aCons (eV 0) aNil) [.sh p.t, .sh (lrT ps), .sh (.tup [.str w', numsT b, .int (k : Nat)]), .sh (.bl false), z4, z5] = .ok (.int (U : Nat)) := eCall_ok (aCons_ok rfl rfl) rfl h4
      unfold eCh
      rw [e1, e2]
      show (match gLe (.int 0) (.int (k : Nat)) with | some (.bl true) => Res.of (gLt (.int (k : Nat)) (.int (U : Nat))) | some (.bl false) => .ok (.bl false) | _ => .bad) = _
      rw [l1]
      show Res.of (gLt (.int (k : Nat)) (.int (U : Nat))) = _
      rw [l2]
      rfl
    refine pIfF (P := fun o => o = .rt _) (eOr_bl (a := false) (b := false) (eNot_bl (a := true) (eCall_ok (aCons_ok rfl rfl) rfl h3)) fun _ => eNot_bl (a := true) (cc _ _)) ?_
    refine pNx (P := fun o => o = .rt _) ?_
    refine pSet (P := fun o => o = .rt _) (t := sT (0, b)) (eTup_ok (aCons_ok rfl (aCons_ok (eB_ok rfl rfl g1) rfl)) (by show 2 ≤ 1000; decide)) ?_
    simp only [List.set_cons_succ, List.set_cons_zero]
    have h0 : StO p (some (0, b)) := ⟨hp.n1, hN⟩
    refine pForR (P := fun o => o = .rt _) (N := k) (fun j ρ => ∃ x5, ρ = [.sh p.t, .sh (lrT ps), .sh (.tup [.str w', numsT b, .int (k : Nat)]), .sh (.bl false), .sh (oS (itr p j (some (0, b)))), x5]) (iRg_big (eB_ok rfl rfl g2) hkk) ⟨_, rfl⟩ ?_ ?_
    · rintro j hj ρ ⟨x5, rfl⟩
      simp only [List.set_cons_succ, List.set_cons_zero]
      rw [itr_succ]
      have hsj := itr_ok hp j h0
      generalize itr p j (some (0, b)) = o at hsj
      cases o with
      | none => exact ⟨_, ifN_f (f := sSet 4 _) rfl, _, rfl⟩
      | some x =>
        have hx : St p x.1 x.2 := hsj
        have hlt := hx.1
        have hr : p.rows[x.1]? = some p.rows[x.1] := List.getElem?_eq_getElem hx.1
        have e1 := hst hr hx.2
        have en : nxt p x = nx p x.1 x.2 p.rows[x.1] := by unfold nxt; rw [hr]
        have e2 : eCall 2 F4 (aCons (eV 0) (aCons (eV 4) aNil)) [.sh p.t, .sh (lrT ps), .sh (.tup [.str w', numsT b, .int (k : Nat)]), .sh (.bl false), .sh (oS (some x)), .sh (.int (j : Nat))] = .ok (stepT p x.1 x.2 p.rows[x.1]) := eCall_ok (aCons_ok rfl (aCons_ok rfl rfl)) rfl e1
        exact ⟨_, ifE_t rfl (sSet_ok (eB_ok e2 rfl (show gIx (stepT p x.1 x.2 p.rows[x.1]) (.int 0) = some (oS (nxt p x)) from by rw [en]; rfl))), _, rfl⟩
    · rintro ρ ⟨x5, rfl⟩
      rw [hk]
      have gin : gIn true (.str w') (.tup [.str "stuck", .str "missed"]) = some (.bl false) := by
        rcases hw with rfl | rfl <;> rfl
      refine pIfF (P := fun o => o = .rt _) (eOr_bl (a := false) (b := false) rfl fun _ => eB_ok (eB_ok rfl rfl g0) (eTup_ok (aCons_ok rfl (aCons_ok rfl rfl)) (by show 2 ≤ 1000; decide)) gin) ?_
      refine pNx (P := fun o => o = .rt _) ?_
      have ge : gEq (.str w') (.str w') = some (.bl true) := by
        rcases hw with rfl | rfl <;> exact gEq_refl (by decide +kernel)
      exact pRet (P := fun o => o = .rt _) (eB_ok (eB_ok (eCall_ok (aCons_ok rfl (aCons_ok rfl (aCons_ok rfl rfl))) rfl h5) rfl (by rw [gIx_tup]; exact VS.atI_nat _ 0)) (eB_ok rfl rfl g0) ge) rfl
end K08

namespace K08
open PySem PySem.Spec PyProof.Rows L2 Evl VS
theorem lrules_ok {ps : List Pl} (h : (ps.map Pl.row).Nodup) (hl : ps.length ≤ 1000) : m_law_rules [.lst (ps.map Pl.t)] = .ok (lrT ps) := by
  refine fDef_rt ?_
  show b_law_rules [.sh (.lst (ps.map Pl.t)), .un, .un] = _
  unfold b_law_rules
  refine pNew (P := fun o => o = .rt (lrT ps)) rfl ?_
  simp only [List.set_cons_succ, List.set_cons_zero]
  refine pFor (P := fun o => o = .rt (lrT ps)) (α := Pl) (u := Pl.t) (fun r ρ => ∃ A y, ps = A ++ r ∧ ρ = [.sh (.lst (ps.map Pl.t)), .ow (lrT A), y]) (l := ps) (iIt_lst rfl) ⟨[], .un, rfl, rfl⟩ ?_ ?_
  · rintro x r ρ ⟨A, y, e, rfl⟩
    refine ⟨_, rfl, .inl ⟨[.sh (.lst (ps.map Pl.t)), .ow (lrT (A ++ [x])), .sh x.t], ?_, A ++ [x], _, by rw [List.append_assoc]; exact e, rfl⟩⟩
    have nk : ((keysT A).any fun k => keyEq k (.int (x.row : Nat))) = false := by
      rw [List.any_eq_false]
      intro k hk
      obtain ⟨b, hb, rfl⟩ := List.mem_map.mp hk
      intro z
      rw [keyEq_int] at z
      have z : ((b.row : Nat) : Int) = (x.row : Nat) := eq_of_beq z
      have z : b.row = x.row := by omega
      rw [e, List.map_append, List.nodup_append] at h
      exact h.2.2 b.row (List.mem_map_of_mem hb) x.row (by simp) z
    have ak : (keysT A).all isKey = true := all_keys A
    have hA : A.length ≤ 1000 := by rw [e, List.length_append] at hl; omega
    have lk : (keysT A).length < 100000 := by unfold keysT; rw [List.length_map]; exact lt_big hA
    show (if isKey (.int (x.row : Nat)) && ((keysT A).all isKey && decide ((keysT A).length < 100000)) then Out.nx [.sh (.lst (ps.map Pl.t)), .ow (.dic (putD (keysT A) (A.map fun x => rulesT x.rules) (.int (x.row : Nat)) (rulesT x.rules)).1 (putD (keysT A) (A.map fun x => rulesT x.rules) (.int (x.row : Nat)) (rulesT x.rules)).2), .sh x.t] else .bad) = _
    rw [ak, decide_eq_true lk, show isKey (.int (x.row : Nat)) = true from rfl]
    unfold putD
    rw [nk]
    show Out.nx [.sh (.lst (ps.map Pl.t)), .ow (.dic (keysT A ++ [.int (x.row : Nat)]) ((A.map fun x => rulesT x.rules) ++ [rulesT x.rules])), .sh x.t] = _
    unfold lrT keysT
    rw [List.map_append, List.map_append]
    rfl
  · rintro ρ ⟨A, y, e, rfl⟩
    rw [List.append_nil] at e
    subst e
    exact pFrz (P := fun o => o = .rt (lrT ps)) (pRet (P := fun o => o = .rt (lrT ps)) rfl rfl)
end K08

namespace K08
open PySem PySem.Spec PyProof.Rows L2 Evl VS
/-! ### refusals -/
theorem need_program_no {t : T} (h : m_is_program [t] = .ok (.bl false)) : m_need_program [t] = .ex "BadProgram" [] := by
  show (match b_need_program [.sh t] with | .rt t => Res.ok t | .nx _ => .ok .non | .ex x p _ => .ex x p | _ => .bad) = _
  unfold b_need_program
  generalize m_is_program = F at *
  have cn : (eNot (eCall 1 F (aCons (eV 0) aNil))) [.sh t] = .ok (.bl true) := eNot_bl (a := false) (eCall_ok (aCons_ok rfl rfl) rfl h)
  unfold sSeq
  rw [sIf_t cn]
  rfl
theorem places_no1 {x y z : T} (h : m_is_program [x] = .ok (.bl false)) : m_need_places [x, y, z] = .ex "BadProgram" [] := by
  have h1 := need_program_no h
  refine defN_ex (ρ := [.sh x, .sh y, .sh z]) ?_
  show b_need_places [.sh x, .sh y, .sh z] = _
  unfold b_need_places
  generalize m_need_program = F1 at *
  have e : sExp (eCall 1 F1 (aCons (eV 0) aNil)) [.sh x, .sh y, .sh z] = .ex "BadProgram" [] [.sh x, .sh y, .sh z] := by
    simp [sExp, sLift, eCall, aCons, aNil, eV, Res.bind, h1]
  exact sSeq_ex e
theorem places_no2 {p : Pg} {y z : T} (hp : p.ok) (h : m_is_program [y] = .ok (.bl false)) : m_need_places [p.t, y, z] = .ex "BadProgram" [] := by
  have h1 := need_program_ok hp
  have h2 := need_program_no h
  refine defN_ex (ρ := [.sh p.t, .sh y, .sh z]) ?_
  show b_need_places [.sh p.t, .sh y, .sh z] = _
  unfold b_need_places
  generalize m_need_program = F1 at *
  refine pExp (P := fun o => o = .ex _ _ _) (eCall_ok (aCons_ok rfl rfl) rfl h1) ?_
  have e : sExp (eCall 1 F1 (aCons (eV 1) aNil)) [.sh p.t, .sh y, .sh z] = .ex "BadProgram" [] [.sh p.t, .sh y, .sh z] := by
    simp [sExp, sLift, eCall, aCons, aNil, eV, Res.bind, h2]
  exact sSeq_ex e
theorem looked_ex {x y z : T} {e : Str} (h : m_need_places [x, y, z] = .ex e []) : m_looked [x, y, z] = .ex e [] := by
  show (match b_looked [.sh x, .sh y, .sh z, .un, .un, .un, .un] with | .rt t => Res.ok t | .nx _ => .ok .non | .ex x p _ => .ex x p | _ => .bad) = _
  unfold b_looked
  generalize m_need_places = F1 at *
  generalize m_by_row = F2 at *
  have e1 : sSet 3 (eCall 1 F2 (aCons (eCall 3 F1 (aCons (eV 0) (aCons (eV 1) (aCons (eV 2) aNil)))) aNil)) [.sh x, .sh y, .sh z, .un, .un, .un, .un] = .ex e [] [.sh x, .sh y, .sh z, .un, .un, .un, .un] := by
    simp [sSet, sLift, eCall, aCons, aNil, eV, Res.bind, h]
  rw [sSeq_ex e1]
theorem tr4_p : tr4_law_word "BadProgram" = some true := rfl
theorem tr4_l : tr4_law_word "BadPlaces" = some true := rfl
theorem i0_p : is0_law_word "BadProgram" = some true := rfl
theorem i1_p : is1_law_word "BadProgram" = some false := rfl
theorem i2_p : is2_law_word "BadProgram" = some false := rfl
theorem i3_p : is3_law_word "BadProgram" = some true := rfl
theorem i0_l : is0_law_word "BadPlaces" = some false := rfl
theorem i1_l : is1_law_word "BadPlaces" = some true := rfl
theorem i2_l : is2_law_word "BadPlaces" = some false := rfl
theorem i3_l : is3_law_word "BadPlaces" = some true := rfl
end K08

namespace K08
open PySem PySem.Spec PyProof.Rows L2 Evl VS
theorem mul1 (x : T) : gMul (.lst [x]) (.int 1) = some (.lst [x]) := by
  show (if (1 : Int) ≤ 100000 ∧ ([x] : List T).length * (1 : Int).toNat ≤ 100000 ∧ -100000 ≤ (1 : Int) then some (T.lst (List.replicate (1 : Int).toNat [x]).flatten) else none) = _
  rw [if_pos ⟨by decide, (by decide : 1 * 1 ≤ 100000), by decide⟩]
  rfl
theorem mul0 (x : T) : gMul (.lst [x]) (.int 0) = some (.lst []) := by
  show (if (0 : Int) ≤ 100000 ∧ ([x] : List T).length * (0 : Int).toNat ≤ 100000 ∧ -100000 ≤ (0 : Int) then some (T.lst (List.replicate (0 : Int).toNat [x]).flatten) else none) = _
  rw [if_pos ⟨by decide, (by decide : 1 * 0 ≤ 100000), by decide⟩]
  rfl
theorem word_of {P S C : T} {x w : Str} (h : m_looked [P, S, C] = .ex x []) (ht : tr4_law_word x = some true)
    (hw : (sSeq (sSet 4 (eB gAdd (eB gMul (eLst (aCons (eC (.str "program")) aNil)) (eU gInt (eIsE 3 is0_law_word))) (eB gMul (eLst (aCons (eC (.str "places")) aNil)) (eU gInt (eIsE 3 is1_law_word)))))
  (sSeq (sSet 5 (eIsE 3 is2_law_word))
  (sRet (eB gAdd (eB gAdd (eW 4) (eB gMul (eLst (aCons (eC (.str "others")) aNil)) (eU gInt (eW 5)))) (eB gMul (eLst (aCons (eC (.str "value")) aNil)) (eU gInt (eIsE 3 is3_law_word))))))) [.sh P, .sh S, .sh C, .xn x [], .un, .un] = .rt (.lst [.str w, .str "value"])) :
    m_law_word [P, S, C] = .ok (.lst [.str w, .str "value"]) := by
  have e1 : (sExp (eCall 3 m_looked (aCons (eV 0) (aCons (eV 1) (aCons (eV 2) aNil))))) [.sh P, .sh S, .sh C, .un, .un, .un] = .ex x [] [.sh P, .sh S, .sh C, .un, .un, .un] := by
    generalize m_looked = F at *
    simp [sExp, sLift, eCall, aCons, aNil, eV, Res.bind, h]
  have z : b_law_word [.sh P, .sh S, .sh C, .un, .un, .un] = .rt (.lst [.str w, .str "value"]) := by
    unfold b_law_word
    generalize (sSeq (sSet 4 (eB gAdd (eB gMul (eLst (aCons (eC (.str "program")) aNil)) (eU gInt (eIsE 3 is0_law_word))) (eB gMul (eLst (aCons (eC (.str "places")) aNil)) (eU gInt (eIsE 3 is1_law_word)))))
      (sSeq (sSet 5 (eIsE 3 is2_law_word))
      (sRet (eB gAdd (eB gAdd (eW 4) (eB gMul (eLst (aCons (eC (.str "others")) aNil)) (eU gInt (eW 5)))) (eB gMul (eLst (aCons (eC (.str "value")) aNil)) (eU gInt (eIsE 3 is3_law_word))))))) = HB at *
    unfold sSeq sTry
    rw [e1]
    simp only [ht]
    have e3 : ([.sh P, .sh S, .sh C, .un, .un, .un] : Ev').set 3 (.xn x []) = [.sh P, .sh S, .sh C, .xn x [], .un, .un] := rfl
    rw [e3, hw]
  show (match b_law_word [.sh P, .sh S, .sh C, .un, .un, .un] with | .rt t => Res.ok t | .nx _ => .ok .non | .ex x p _ => .ex x p | _ => .bad) = _
  rw [z]
theorem word_program {P S C : T} (h : m_looked [P, S, C] = .ex "BadProgram" []) : m_law_word [P, S, C] = .ok (.lst [.str "program", .str "value"]) := by
  refine word_of h tr4_p ?_
  have h1 := mul1
  have h0 := mul0
  generalize gMul = GM at *
  simp [sSeq, sSet, sRet, sLift, eB, eU, eW, eC, eLst, aCons, aNil, eIsE, Res.bind, Res.of, gInt, gAdd, i0_p, i1_p, i2_p, i3_p, h1, h0]
theorem word_places {P S C : T} (h : m_looked [P, S, C] = .ex "BadPlaces" []) : m_law_word [P, S, C] = .ok (.lst [.str "places", .str "value"]) := by
  refine word_of h tr4_l ?_
  have h1 := mul1
  have h0 := mul0
  generalize gMul = GM at *
  simp [sSeq, sSet, sRet, sLift, eB, eU, eW, eC, eLst, aCons, aNil, eIsE, Res.bind, Res.of, gInt, gAdd, i0_l, i1_l, i2_l, i3_l, h1, h0]
end K08

namespace K08
open PySem PySem.Spec PyProof.Rows L2 Evl VS
/-- rows of any kind -/
def rw_ (t B M N : T) : Bool := match m_is_row [t, B, M, N] with
  | .ok (.bl b) => b
  | _ => false
def Rs (t B M N : T) : Prop := ∃ b, m_is_row [t, B, M, N] = .ok (.bl b)
theorem Rs.eq {t B M N : T} (h : Rs t B M N) : m_is_row [t, B, M, N] = .ok (.bl (rw_ t B M N)) := by
  obtain ⟨b, e⟩ := h
  unfold rw_
  rw [e]
theorem wh_3 {B : Nat} (h : B ≤ 3) : m_whole [.int (B : Nat), .int 0, .int 3] = .ok (.bl true) := wh_num (B := 3) h
theorem wh_4 {M : Nat} (h1 : 1 ≤ M) (h4 : M ≤ 4) : m_whole [.int (M : Nat), .int 1, .int 4] = .ok (.bl true) := by
  rw [whole_eq _ _ _ rfl]
  simp only [wh]
  rw [decide_eq_true (by omega : (1 : Int) ≤ M), decide_eq_true (by omega : (M : Int) ≤ 4)]
  rfl
theorem is_program_rows {B M : Nat} {L : List T} (hB : B ≤ 3) (h1 : 1 ≤ M) (h4 : M ≤ 4) (l1 : 1 ≤ L.length) (l2 : L.length ≤ 20) (hr : ∀ t ∈ L, Rs t (.int (B : Nat)) (.int (M : Nat)) (.int (L.length : Nat)))
    {b : Bool} (hb : (L.all fun t => rw_ t (.int (B : Nat)) (.int (M : Nat)) (.int (L.length : Nat))) = b)
    (hl : b = true → ∃ k l, L.getLast? = some (.tup (.str k :: l)) ∧ gIn false (.str k) (.tup [.str "go", .str "stop"]) = some (.bl false)) : m_is_program [.tup [.int (B : Nat), .int (M : Nat), .lst L]] = .ok (.bl false) := by
  have e1 := wh_3 hB
  have e2 := wh_4 h1 h4
  have h3 : (1 : Int) ≤ (L.length : Nat) := by omega
  have h5 : ((L.length : Nat) : Int) ≤ 20 := by omega
  have c := eAll_comp (fi := iIt (eV 3)) (i := 4) (is := [4]) (fe := eCall 4 m_is_row (aCons (eV 4) (aCons (eV 1) (aCons (eV 2) (aCons (eU gLen (eW 3)) aNil))))) (ρ := [.sh (.tup [.int (B : Nat), .int (M : Nat), .lst L]), .sh (.int (B : Nat)), .sh (.int (M : Nat)), .sh (.lst L), .un]) (l := L) (f := fun t => rw_ t (.int (B : Nat)) (.int (M : Nat)) (.int (L.length : Nat))) rfl (by omega) fun t m => by
    have := (hr t m).eq
    generalize m_is_row = F at *
    simp [wipeE, fDef, sSeq, sLift, sRet, sIf, sSet, sNew, sExp, sNx, sAsg, setT, setAll, sFrz, frz, sRaise, sApp, eB, eU, eC, eV, eW, eCh, eAnd, eOr, eNot, eIf, eTup, eLst, eNeg, eSl, oNone, oSome, aNil, aCons, eCall, Res.bind, Res.of, gI, gLen, gInt, gList, gTuple, gType, tyName, gTyIs, gIsi, gIsN', gNotN', T.isNon, T.isFn, gIx_tup, gIx_lst, gIx_fro, VS.atI_nat, atI_0, atI_1, atI_2, VS.atI_last, gEq_int, gNe_int, gAdd, gSubI, gMul, gMod, gDiv, this]
  rw [hb] at c
  unfold m_is_program b_is_program
  cases b with
  | false =>
    generalize m_is_row = F at *
    generalize m_whole = F2 at *
    simp [fDef, sSeq, sLift, sRet, sIf, sSet, sNew, sExp, sNx, sAsg, setT, setAll, sFrz, frz, sRaise, sApp, eB, eU, eC, eV, eW, eCh, eAnd, eOr, eNot, eIf, eTup, eLst, eNeg, eSl, oNone, oSome, aNil, aCons, eCall, Res.bind, Res.of, gI, gLen, gInt, gList, gTuple, gType, tyName, gTyIs, gIsi, gIsN', gNotN', T.isNon, T.isFn, gIx_tup, gIx_lst, gIx_fro, VS.atI_nat, atI_0, atI_1, atI_2, VS.atI_last, gEq_int, gNe_int, gAdd, gSubI, gMul, gMod, gDiv, e1, e2, h3, h5] at c ⊢
    simp [fDef, sSeq, sLift, sRet, sIf, sSet, sNew, sExp, sNx, sAsg, setT, setAll, sFrz, frz, sRaise, sApp, eB, eU, eC, eV, eW, eCh, eAnd, eOr, eNot, eIf, eTup, eLst, eNeg, eSl, oNone, oSome, aNil, aCons, eCall, Res.bind, Res.of, gI, gLen, gInt, gList, gTuple, gType, tyName, gTyIs, gIsi, gIsN', gNotN', T.isNon, T.isFn, gIx_tup, gIx_lst, gIx_fro, VS.atI_nat, atI_0, atI_1, atI_2, VS.atI_last, gEq_int, gNe_int, gAdd, gSubI, gMul, gMod, gDiv, c]
  | true =>
    obtain ⟨k, l, h6, h7⟩ := hl rfl
    generalize m_is_row = F at *
    generalize m_whole = F2 at *
    simp [fDef, sSeq, sLift, sRet, sIf, sSet, sNew, sExp, sNx, sAsg, setT, setAll, sFrz, frz, sRaise, sApp, eB, eU, eC, eV, eW, eCh, eAnd, eOr, eNot, eIf, eTup, eLst, eNeg, eSl, oNone, oSome, aNil, aCons, eCall, Res.bind, Res.of, gI, gLen, gInt, gList, gTuple, gType, tyName, gTyIs, gIsi, gIsN', gNotN', T.isNon, T.isFn, gIx_tup, gIx_lst, gIx_fro, VS.atI_nat, atI_0, atI_1, atI_2, VS.atI_last, gEq_int, gNe_int, gAdd, gSubI, gMul, gMod, gDiv, e1, e2, h3, h5] at c ⊢
    simp [fDef, sSeq, sLift, sRet, sIf, sSet, sNew, sExp, sNx, sAsg, setT, setAll, sFrz, frz, sRaise, sApp, eB, eU, eC, eV, eW, eCh, eAnd, eOr, eNot, eIf, eTup, eLst, eNeg, eSl, oNone, oSome, aNil, aCons, eCall, Res.bind, Res.of, gI, gLen, gInt, gList, gTuple, gType, tyName, gTyIs, gIsi, gIsN', gNotN', T.isNon, T.isFn, gIx_tup, gIx_lst, gIx_fro, VS.atI_nat, atI_0, atI_1, atI_2, VS.atI_last, gEq_int, gNe_int, gAdd, gSubI, gMul, gMod, gDiv, c, h6, h7]
/-- not a tuple, not three parts -/
theorem is_program_not {t : T} (ht : pln t = true) (hn : ∀ l, t ≠ .tup l) : m_is_program [t] = .ok (.bl false) := by
  unfold m_is_program b_is_program
  generalize m_is_row = F at *
  generalize m_whole = F2 at *
  cases t <;> first | (cases ht; done) | (exact absurd rfl (hn _)) | simp [fDef, sSeq, sLift, sRet, sIf, sSet, sNew, sExp, sNx, sAsg, setT, setAll, sFrz, frz, sRaise, sApp, eB, eU, eC, eV, eW, eCh, eAnd, eOr, eNot, eIf, eTup, eLst, eNeg, eSl, oNone, oSome, aNil, aCons, eCall, Res.bind, Res.of, gI, gLen, gInt, gList, gTuple, gType, tyName, gTyIs, gIsi, gIsN', gNotN', T.isNon, T.isFn, gIx_tup, gIx_lst, gIx_fro, VS.atI_nat, atI_0, atI_1, atI_2, VS.atI_last, gEq_int, gNe_int, gAdd, gSubI, gMul, gMod, gDiv]
theorem is_program_len {l : List T} (h : l.length ≠ 3) : m_is_program [.tup l] = .ok (.bl false) := by
  have h9 : ¬ ((l.length : Nat) : Int) = 3 := by omega
  unfold m_is_program b_is_program
  generalize m_is_row = F at *
  generalize m_whole = F2 at *
  simp [fDef, sSeq, sLift, sRet, sIf, sSet, sNew, sExp, sNx, sAsg, setT, setAll, sFrz, frz, sRaise, sApp, eB, eU, eC, eV, eW, eCh, eAnd, eOr, eNot, eIf, eTup, eLst, eNeg, eSl, oNone, oSome, aNil, aCons, eCall, Res.bind, Res.of, gI, gLen, gInt, gList, gTuple, gType, tyName, gTyIs, gIsi, gIsN', gNotN', T.isNon, T.isFn, gIx_tup, gIx_lst, gIx_fro, VS.atI_nat, atI_0, atI_1, atI_2, VS.atI_last, gEq_int, gNe_int, gAdd, gSubI, gMul, gMod, gDiv, h9]
theorem is_program_box {b m r : T} (hb : pln b = true) (h : wh b 0 3 = false) : m_is_program [.tup [b, m, r]] = .ok (.bl false) := by
  have e := whole_eq b 0 3 hb
  rw [h] at e
  unfold m_is_program b_is_program
  generalize m_is_row = F at *
  generalize m_whole = F2 at *
  simp [fDef, sSeq, sLift, sRet, sIf, sSet, sNew, sExp, sNx, sAsg, setT, setAll, sFrz, frz, sRaise, sApp, eB, eU, eC, eV, eW, eCh, eAnd, eOr, eNot, eIf, eTup, eLst, eNeg, eSl, oNone, oSome, aNil, aCons, eCall, Res.bind, Res.of, gI, gLen, gInt, gList, gTuple, gType, tyName, gTyIs, gIsi, gIsN', gNotN', T.isNon, T.isFn, gIx_tup, gIx_lst, gIx_fro, VS.atI_nat, atI_0, atI_1, atI_2, VS.atI_last, gEq_int, gNe_int, gAdd, gSubI, gMul, gMod, gDiv, e]
theorem is_program_most {B : Nat} {m r : T} (hB : B ≤ 3) (hm : pln m = true) (h : wh m 1 4 = false) : m_is_program [.tup [.int (B : Nat), m, r]] = .ok (.bl false) := by
  have e := whole_eq m 1 4 hm
  rw [h] at e
  have e1 := wh_3 hB
  unfold m_is_program b_is_program
  generalize m_is_row = F at *
  generalize m_whole = F2 at *
  simp [fDef, sSeq, sLift, sRet, sIf, sSet, sNew, sExp, sNx, sAsg, setT, setAll, sFrz, frz, sRaise, sApp, eB, eU, eC, eV, eW, eCh, eAnd, eOr, eNot, eIf, eTup, eLst, eNeg, eSl, oNone, oSome, aNil, aCons, eCall, Res.bind, Res.of, gI, gLen, gInt, gList, gTuple, gType, tyName, gTyIs, gIsi, gIsN', gNotN', T.isNon, T.isFn, gIx_tup, gIx_lst, gIx_fro, VS.atI_nat, atI_0, atI_1, atI_2, VS.atI_last, gEq_int, gNe_int, gAdd, gSubI, gMul, gMod, gDiv, e1, e]
theorem is_program_rnot {B M : Nat} {r : T} (hB : B ≤ 3) (h1 : 1 ≤ M) (h4 : M ≤ 4) (ht : pln r = true) (hn : ∀ l, r ≠ .lst l) : m_is_program [.tup [.int (B : Nat), .int (M : Nat), r]] = .ok (.bl false) := by
  have e1 := wh_3 hB
  have e2 := wh_4 h1 h4
  unfold m_is_program b_is_program
  generalize m_is_row = F at *
  generalize m_whole = F2 at *
  cases r <;> first | (cases ht; done) | (exact absurd rfl (hn _)) | simp [fDef, sSeq, sLift, sRet, sIf, sSet, sNew, sExp, sNx, sAsg, setT, setAll, sFrz, frz, sRaise, sApp, eB, eU, eC, eV, eW, eCh, eAnd, eOr, eNot, eIf, eTup, eLst, eNeg, eSl, oNone, oSome, aNil, aCons, eCall, Res.bind, Res.of, gI, gLen, gInt, gList, gTuple, gType, tyName, gTyIs, gIsi, gIsN', gNotN', T.isNon, T.isFn, gIx_tup, gIx_lst, gIx_fro, VS.atI_nat, atI_0, atI_1, atI_2, VS.atI_last, gEq_int, gNe_int, gAdd, gSubI, gMul, gMod, gDiv, e1, e2]
theorem is_program_rlen {B M : Nat} {L : List T} (hB : B ≤ 3) (h1 : 1 ≤ M) (h4 : M ≤ 4) (hl : L.length = 0 ∨ 20 < L.length) : m_is_program [.tup [.int (B : Nat), .int (M : Nat), .lst L]] = .ok (.bl false) := by
  have e1 := wh_3 hB
  have e2 := wh_4 h1 h4
  unfold m_is_program b_is_program
  generalize m_is_row = F at *
  generalize m_whole = F2 at *
  rcases hl with hl | hl
  · have h3 : ¬ (1 : Int) ≤ (L.length : Nat) := by omega
    simp [fDef, sSeq, sLift, sRet, sIf, sSet, sNew, sExp, sNx, sAsg, setT, setAll, sFrz, frz, sRaise, sApp, eB, eU, eC, eV, eW, eCh, eAnd, eOr, eNot, eIf, eTup, eLst, eNeg, eSl, oNone, oSome, aNil, aCons, eCall, Res.bind, Res.of, gI, gLen, gInt, gList, gTuple, gType, tyName, gTyIs, gIsi, gIsN', gNotN', T.isNon, T.isFn, gIx_tup, gIx_lst, gIx_fro, VS.atI_nat, atI_0, atI_1, atI_2, VS.atI_last, gEq_int, gNe_int, gAdd, gSubI, gMul, gMod, gDiv, e1, e2, h3, hl]
  · have h3 : ¬ ((L.length : Nat) : Int) ≤ 20 := by omega
    have h4 : (1 : Int) ≤ (L.length : Nat) := by omega
    simp [fDef, sSeq, sLift, sRet, sIf, sSet, sNew, sExp, sNx, sAsg, setT, setAll, sFrz, frz, sRaise, sApp, eB, eU, eC, eV, eW, eCh, eAnd, eOr, eNot, eIf, eTup, eLst, eNeg, eSl, oNone, oSome, aNil, aCons, eCall, Res.bind, Res.of, gI, gLen, gInt, gList, gTuple, gType, tyName, gTyIs, gIsi, gIsN', gNotN', T.isNon, T.isFn, gIx_tup, gIx_lst, gIx_fro, VS.atI_nat, atI_0, atI_1, atI_2, VS.atI_last, gEq_int, gNe_int, gAdd, gSubI, gMul, gMod, gDiv, e1, e2, h3, h4]
theorem r_put {x y : T} {B M N : Int} (hx : pln x = true) (hy : pln y = true) : m_is_row [.tup [.str "put", x, y], .int B, .int M, .int N] = .ok (.bl (wh x 0 (B - 1) && wh y 0 M)) := by
  have e := whole_eq x 0 (B - 1) hx
  have e2 := whole_eq y 0 M hy
  unfold m_is_row b_is_row
  generalize m_whole = F at *
  simp [fDef, sSeq, sLift, sRet, sIf, sSet, sNew, sExp, sNx, sAsg, setT, setAll, sFrz, frz, sRaise, sApp, eB, eU, eC, eV, eW, eCh, eAnd, eOr, eNot, eIf, eTup, eLst, eNeg, eSl, oNone, oSome, aNil, aCons, eCall, Res.bind, Res.of, gI, gLen, gInt, gList, gTuple, gType, tyName, gTyIs, gIsi, gIsN', gNotN', T.isNon, T.isFn, gIx_tup, gIx_lst, gIx_fro, VS.atI_nat, atI_0, atI_1, atI_2, VS.atI_last, gEq_int, gNe_int, gAdd, gSubI, gMul, gMod, gDiv, iEn, VS.items?, enumL, eComp, wipeE, compF, dg_box, dg_number, dg_row, disp3, gAll, bls, pk_put, pi_put, e, e2]
theorem n_put {l : List T} {B M N : T} (h : l.length ≠ 2) : m_is_row [.tup (.str "put" :: l), B, M, N] = .ok (.bl false) := by
  have h9 : ¬ ((l.length : Nat) : Int) + 1 = 3 := by omega
  have h8 : ¬ ((l.length : Nat) : Int) + 1 = 0 := by omega
  unfold m_is_row b_is_row
  generalize m_whole = F at *
  simp [fDef, sSeq, sLift, sRet, sIf, sSet, sNew, sExp, sNx, sAsg, setT, setAll, sFrz, frz, sRaise, sApp, eB, eU, eC, eV, eW, eCh, eAnd, eOr, eNot, eIf, eTup, eLst, eNeg, eSl, oNone, oSome, aNil, aCons, eCall, Res.bind, Res.of, gI, gLen, gInt, gList, gTuple, gType, tyName, gTyIs, gIsi, gIsN', gNotN', T.isNon, T.isFn, gIx_tup, gIx_lst, gIx_fro, VS.atI_nat, atI_0, atI_1, atI_2, VS.atI_last, gEq_int, gNe_int, gAdd, gSubI, gMul, gMod, gDiv, pk_put, pi_put, h9, h8]
  try omega
theorem r_more {x : T} {B M N : Int} (hx : pln x = true) : m_is_row [.tup [.str "more", x], .int B, .int M, .int N] = .ok (.bl (wh x 0 (B - 1))) := by
  have e := whole_eq x 0 (B - 1) hx
  unfold m_is_row b_is_row
  generalize m_whole = F at *
  simp [fDef, sSeq, sLift, sRet, sIf, sSet, sNew, sExp, sNx, sAsg, setT, setAll, sFrz, frz, sRaise, sApp, eB, eU, eC, eV, eW, eCh, eAnd, eOr, eNot, eIf, eTup, eLst, eNeg, eSl, oNone, oSome, aNil, aCons, eCall, Res.bind, Res.of, gI, gLen, gInt, gList, gTuple, gType, tyName, gTyIs, gIsi, gIsN', gNotN', T.isNon, T.isFn, gIx_tup, gIx_lst, gIx_fro, VS.atI_nat, atI_0, atI_1, atI_2, VS.atI_last, gEq_int, gNe_int, gAdd, gSubI, gMul, gMod, gDiv, iEn, VS.items?, enumL, eComp, wipeE, compF, dg_box, dg_number, dg_row, disp3, gAll, bls, pk_more, pi_more, e]
theorem n_more {l : List T} {B M N : T} (h : l.length ≠ 1) : m_is_row [.tup (.str "more" :: l), B, M, N] = .ok (.bl false) := by
  have h9 : ¬ ((l.length : Nat) : Int) + 1 = 2 := by omega
  have h8 : ¬ ((l.length : Nat) : Int) + 1 = 0 := by omega
  unfold m_is_row b_is_row
  generalize m_whole = F at *
  simp [fDef, sSeq, sLift, sRet, sIf, sSet, sNew, sExp, sNx, sAsg, setT, setAll, sFrz, frz, sRaise, sApp, eB, eU, eC, eV, eW, eCh, eAnd, eOr, eNot, eIf, eTup, eLst, eNeg, eSl, oNone, oSome, aNil, aCons, eCall, Res.bind, Res.of, gI, gLen, gInt, gList, gTuple, gType, tyName, gTyIs, gIsi, gIsN', gNotN', T.isNon, T.isFn, gIx_tup, gIx_lst, gIx_fro, VS.atI_nat, atI_0, atI_1, atI_2, VS.atI_last, gEq_int, gNe_int, gAdd, gSubI, gMul, gMod, gDiv, pk_more, pi_more, h9, h8]
  try omega
theorem r_copy {x y : T} {B M N : Int} (hx : pln x = true) (hy : pln y = true) : m_is_row [.tup [.str "copy", x, y], .int B, .int M, .int N] = .ok (.bl (wh x 0 (B - 1) && wh y 0 (B - 1))) := by
  have e := whole_eq x 0 (B - 1) hx
  have e2 := whole_eq y 0 (B - 1) hy
  unfold m_is_row b_is_row
  generalize m_whole = F at *
  simp [fDef, sSeq, sLift, sRet, sIf, sSet, sNew, sExp, sNx, sAsg, setT, setAll, sFrz, frz, sRaise, sApp, eB, eU, eC, eV, eW, eCh, eAnd, eOr, eNot, eIf, eTup, eLst, eNeg, eSl, oNone, oSome, aNil, aCons, eCall, Res.bind, Res.of, gI, gLen, gInt, gList, gTuple, gType, tyName, gTyIs, gIsi, gIsN', gNotN', T.isNon, T.isFn, gIx_tup, gIx_lst, gIx_fro, VS.atI_nat, atI_0, atI_1, atI_2, VS.atI_last, gEq_int, gNe_int, gAdd, gSubI, gMul, gMod, gDiv, iEn, VS.items?, enumL, eComp, wipeE, compF, dg_box, dg_number, dg_row, disp3, gAll, bls, pk_copy, pi_copy, e, e2]
theorem n_copy {l : List T} {B M N : T} (h : l.length ≠ 2) : m_is_row [.tup (.str "copy" :: l), B, M, N] = .ok (.bl false) := by
  have h9 : ¬ ((l.length : Nat) : Int) + 1 = 3 := by omega
  have h8 : ¬ ((l.length : Nat) : Int) + 1 = 0 := by omega
  unfold m_is_row b_is_row
  generalize m_whole = F at *
  simp [fDef, sSeq, sLift, sRet, sIf, sSet, sNew, sExp, sNx, sAsg, setT, setAll, sFrz, frz, sRaise, sApp, eB, eU, eC, eV, eW, eCh, eAnd, eOr, eNot, eIf, eTup, eLst, eNeg, eSl, oNone, oSome, aNil, aCons, eCall, Res.bind, Res.of, gI, gLen, gInt, gList, gTuple, gType, tyName, gTyIs, gIsi, gIsN', gNotN', T.isNon, T.isFn, gIx_tup, gIx_lst, gIx_fro, VS.atI_nat, atI_0, atI_1, atI_2, VS.atI_last, gEq_int, gNe_int, gAdd, gSubI, gMul, gMod, gDiv, pk_copy, pi_copy, h9, h8]
  try omega
theorem r_tell {x : T} {B M N : Int} (hx : pln x = true) : m_is_row [.tup [.str "tell", x], .int B, .int M, .int N] = .ok (.bl (wh x 0 (B - 1))) := by
  have e := whole_eq x 0 (B - 1) hx
  unfold m_is_row b_is_row
  generalize m_whole = F at *
  simp [fDef, sSeq, sLift, sRet, sIf, sSet, sNew, sExp, sNx, sAsg, setT, setAll, sFrz, frz, sRaise, sApp, eB, eU, eC, eV, eW, eCh, eAnd, eOr, eNot, eIf, eTup, eLst, eNeg, eSl, oNone, oSome, aNil, aCons, eCall, Res.bind, Res.of, gI, gLen, gInt, gList, gTuple, gType, tyName, gTyIs, gIsi, gIsN', gNotN', T.isNon, T.isFn, gIx_tup, gIx_lst, gIx_fro, VS.atI_nat, atI_0, atI_1, atI_2, VS.atI_last, gEq_int, gNe_int, gAdd, gSubI, gMul, gMod, gDiv, iEn, VS.items?, enumL, eComp, wipeE, compF, dg_box, dg_number, dg_row, disp3, gAll, bls, pk_tell, pi_tell, e]
theorem n_tell {l : List T} {B M N : T} (h : l.length ≠ 1) : m_is_row [.tup (.str "tell" :: l), B, M, N] = .ok (.bl false) := by
  have h9 : ¬ ((l.length : Nat) : Int) + 1 = 2 := by omega
  have h8 : ¬ ((l.length : Nat) : Int) + 1 = 0 := by omega
  unfold m_is_row b_is_row
  generalize m_whole = F at *
  simp [fDef, sSeq, sLift, sRet, sIf, sSet, sNew, sExp, sNx, sAsg, setT, setAll, sFrz, frz, sRaise, sApp, eB, eU, eC, eV, eW, eCh, eAnd, eOr, eNot, eIf, eTup, eLst, eNeg, eSl, oNone, oSome, aNil, aCons, eCall, Res.bind, Res.of, gI, gLen, gInt, gList, gTuple, gType, tyName, gTyIs, gIsi, gIsN', gNotN', T.isNon, T.isFn, gIx_tup, gIx_lst, gIx_fro, VS.atI_nat, atI_0, atI_1, atI_2, VS.atI_last, gEq_int, gNe_int, gAdd, gSubI, gMul, gMod, gDiv, pk_tell, pi_tell, h9, h8]
  try omega
theorem r_go {x : T} {B M N : Int} (hx : pln x = true) : m_is_row [.tup [.str "go", x], .int B, .int M, .int N] = .ok (.bl (wh x 0 (N - 1))) := by
  have e := whole_eq x 0 (N - 1) hx
  unfold m_is_row b_is_row
  generalize m_whole = F at *
  simp [fDef, sSeq, sLift, sRet, sIf, sSet, sNew, sExp, sNx, sAsg, setT, setAll, sFrz, frz, sRaise, sApp, eB, eU, eC, eV, eW, eCh, eAnd, eOr, eNot, eIf, eTup, eLst, eNeg, eSl, oNone, oSome, aNil, aCons, eCall, Res.bind, Res.of, gI, gLen, gInt, gList, gTuple, gType, tyName, gTyIs, gIsi, gIsN', gNotN', T.isNon, T.isFn, gIx_tup, gIx_lst, gIx_fro, VS.atI_nat, atI_0, atI_1, atI_2, VS.atI_last, gEq_int, gNe_int, gAdd, gSubI, gMul, gMod, gDiv, iEn, VS.items?, enumL, eComp, wipeE, compF, dg_box, dg_number, dg_row, disp3, gAll, bls, pk_go, pi_go, e]
theorem n_go {l : List T} {B M N : T} (h : l.length ≠ 1) : m_is_row [.tup (.str "go" :: l), B, M, N] = .ok (.bl false) := by
  have h9 : ¬ ((l.length : Nat) : Int) + 1 = 2 := by omega
  have h8 : ¬ ((l.length : Nat) : Int) + 1 = 0 := by omega
  unfold m_is_row b_is_row
  generalize m_whole = F at *
  simp [fDef, sSeq, sLift, sRet, sIf, sSet, sNew, sExp, sNx, sAsg, setT, setAll, sFrz, frz, sRaise, sApp, eB, eU, eC, eV, eW, eCh, eAnd, eOr, eNot, eIf, eTup, eLst, eNeg, eSl, oNone, oSome, aNil, aCons, eCall, Res.bind, Res.of, gI, gLen, gInt, gList, gTuple, gType, tyName, gTyIs, gIsi, gIsN', gNotN', T.isNon, T.isFn, gIx_tup, gIx_lst, gIx_fro, VS.atI_nat, atI_0, atI_1, atI_2, VS.atI_last, gEq_int, gNe_int, gAdd, gSubI, gMul, gMod, gDiv, pk_go, pi_go, h9, h8]
  try omega
theorem r_ask {x y : T} {B M N : Int} (hx : pln x = true) (hy : pln y = true) : m_is_row [.tup [.str "ask", x, y], .int B, .int M, .int N] = .ok (.bl (wh x 0 (B - 1) && wh y 0 (N - 1))) := by
  have e := whole_eq x 0 (B - 1) hx
  have e2 := whole_eq y 0 (N - 1) hy
  unfold m_is_row b_is_row
  generalize m_whole = F at *
  simp [fDef, sSeq, sLift, sRet, sIf, sSet, sNew, sExp, sNx, sAsg, setT, setAll, sFrz, frz, sRaise, sApp, eB, eU, eC, eV, eW, eCh, eAnd, eOr, eNot, eIf, eTup, eLst, eNeg, eSl, oNone, oSome, aNil, aCons, eCall, Res.bind, Res.of, gI, gLen, gInt, gList, gTuple, gType, tyName, gTyIs, gIsi, gIsN', gNotN', T.isNon, T.isFn, gIx_tup, gIx_lst, gIx_fro, VS.atI_nat, atI_0, atI_1, atI_2, VS.atI_last, gEq_int, gNe_int, gAdd, gSubI, gMul, gMod, gDiv, iEn, VS.items?, enumL, eComp, wipeE, compF, dg_box, dg_number, dg_row, disp3, gAll, bls, pk_ask, pi_ask, e, e2]
theorem n_ask {l : List T} {B M N : T} (h : l.length ≠ 2) : m_is_row [.tup (.str "ask" :: l), B, M, N] = .ok (.bl false) := by
  have h9 : ¬ ((l.length : Nat) : Int) + 1 = 3 := by omega
  have h8 : ¬ ((l.length : Nat) : Int) + 1 = 0 := by omega
  unfold m_is_row b_is_row
  generalize m_whole = F at *
  simp [fDef, sSeq, sLift, sRet, sIf, sSet, sNew, sExp, sNx, sAsg, setT, setAll, sFrz, frz, sRaise, sApp, eB, eU, eC, eV, eW, eCh, eAnd, eOr, eNot, eIf, eTup, eLst, eNeg, eSl, oNone, oSome, aNil, aCons, eCall, Res.bind, Res.of, gI, gLen, gInt, gList, gTuple, gType, tyName, gTyIs, gIsi, gIsN', gNotN', T.isNon, T.isFn, gIx_tup, gIx_lst, gIx_fro, VS.atI_nat, atI_0, atI_1, atI_2, VS.atI_last, gEq_int, gNe_int, gAdd, gSubI, gMul, gMod, gDiv, pk_ask, pi_ask, h9, h8]
  try omega
theorem n_stop {l : List T} {B M N : T} (h : l.length ≠ 0) : m_is_row [.tup (.str "stop" :: l), B, M, N] = .ok (.bl false) := by
  have h9 : ¬ ((l.length : Nat) : Int) + 1 = 1 := by omega
  have h8 : ¬ ((l.length : Nat) : Int) + 1 = 0 := by omega
  unfold m_is_row b_is_row
  generalize m_whole = F at *
  simp [fDef, sSeq, sLift, sRet, sIf, sSet, sNew, sExp, sNx, sAsg, setT, setAll, sFrz, frz, sRaise, sApp, eB, eU, eC, eV, eW, eCh, eAnd, eOr, eNot, eIf, eTup, eLst, eNeg, eSl, oNone, oSome, aNil, aCons, eCall, Res.bind, Res.of, gI, gLen, gInt, gList, gTuple, gType, tyName, gTyIs, gIsi, gIsN', gNotN', T.isNon, T.isFn, gIx_tup, gIx_lst, gIx_fro, VS.atI_nat, atI_0, atI_1, atI_2, VS.atI_last, gEq_int, gNe_int, gAdd, gSubI, gMul, gMod, gDiv, pk_stop, pi_stop, h9, h8]
  try omega
theorem n_not {t B M N : T} (ht : pln t = true) (hn : ∀ l, t ≠ .tup l) : m_is_row [t, B, M, N] = .ok (.bl false) := by
  unfold m_is_row b_is_row
  generalize m_whole = F at *
  cases t <;> first | (cases ht; done) | (exact absurd rfl (hn _)) | simp [fDef, sSeq, sLift, sRet, sIf, sSet, sNew, sExp, sNx, sAsg, setT, setAll, sFrz, frz, sRaise, sApp, eB, eU, eC, eV, eW, eCh, eAnd, eOr, eNot, eIf, eTup, eLst, eNeg, eSl, oNone, oSome, aNil, aCons, eCall, Res.bind, Res.of, gI, gLen, gInt, gList, gTuple, gType, tyName, gTyIs, gIsi, gIsN', gNotN', T.isNon, T.isFn, gIx_tup, gIx_lst, gIx_fro, VS.atI_nat, atI_0, atI_1, atI_2, VS.atI_last, gEq_int, gNe_int, gAdd, gSubI, gMul, gMod, gDiv]
theorem n_nil {B M N : T} : m_is_row [.tup [], B, M, N] = .ok (.bl false) := by
  unfold m_is_row b_is_row
  generalize m_whole = F at *
  simp [fDef, sSeq, sLift, sRet, sIf, sSet, sNew, sExp, sNx, sAsg, setT, setAll, sFrz, frz, sRaise, sApp, eB, eU, eC, eV, eW, eCh, eAnd, eOr, eNot, eIf, eTup, eLst, eNeg, eSl, oNone, oSome, aNil, aCons, eCall, Res.bind, Res.of, gI, gLen, gInt, gList, gTuple, gType, tyName, gTyIs, gIsi, gIsN', gNotN', T.isNon, T.isFn, gIx_tup, gIx_lst, gIx_fro, VS.atI_nat, atI_0, atI_1, atI_2, VS.atI_last, gEq_int, gNe_int, gAdd, gSubI, gMul, gMod, gDiv]
theorem n_kind {x : T} {l : List T} {B M N : T} (ht : pln x = true) (hn : ∀ s, x ≠ .str s) : m_is_row [.tup (x :: l), B, M, N] = .ok (.bl false) := by
  have h8 : ¬ ((l.length : Nat) : Int) + 1 = 0 := by omega
  unfold m_is_row b_is_row
  generalize m_whole = F at *
  cases x <;> first | (cases ht; done) | (exact absurd rfl (hn _)) | simp [fDef, sSeq, sLift, sRet, sIf, sSet, sNew, sExp, sNx, sAsg, setT, setAll, sFrz, frz, sRaise, sApp, eB, eU, eC, eV, eW, eCh, eAnd, eOr, eNot, eIf, eTup, eLst, eNeg, eSl, oNone, oSome, aNil, aCons, eCall, Res.bind, Res.of, gI, gLen, gInt, gList, gTuple, gType, tyName, gTyIs, gIsi, gIsN', gNotN', T.isNon, T.isFn, gIx_tup, gIx_lst, gIx_fro, VS.atI_nat, atI_0, atI_1, atI_2, VS.atI_last, gEq_int, gNe_int, gAdd, gSubI, gMul, gMod, gDiv, h8]
theorem wh_lo {i hi : Int} (h : i < 0) : wh (.int i) 0 hi = false := by
  simp only [wh]
  rw [decide_eq_false (by omega : ¬ (0 : Int) ≤ i), Bool.false_and]
theorem wh_hi {i hi : Int} (h : hi < i) : wh (.int i) 0 hi = false := by
  simp only [wh]
  rw [decide_eq_false (by omega : ¬ i ≤ hi), Bool.and_false]
end K08

namespace K08
open PySem PySem.Spec PyProof.Rows L2 Evl VS
/-! ### the odd programs of the law -/
theorem row_mono {B M N N' : Nat} {r : Rw} (h : r.ok B M N) (hN : N ≤ N') : r.ok B M N' := by
  cases r with
  | put b n => exact h
  | more b => exact h
  | copy b o => exact h
  | tell b => exact h
  | go r => exact Nat.lt_of_lt_of_le (show r < N from h) hN
  | ask b r => exact ⟨h.1, Nat.lt_of_lt_of_le h.2 hN⟩
  | stop => exact h
def oddPr (p : Pg) : List T := [.tup [.int 0, .int 1, .lst [.tup [.str "go", .int 1]]], .non, .tup [.int p.B, .int p.M, .lst []], .tup [.int 4, .int p.M, .lst (p.rows.map Rw.t)], .tup [.int p.B, .int 5, .lst (p.rows.map Rw.t)],
  .tup [.int p.B, .int p.M, .lst (p.rows.map Rw.t ++ [T.tup [.str "stop", .int 0]])], .tup [.int p.B, .int p.M, .tup (p.rows.map Rw.t)], .tup [.int p.B, .int p.M, .lst ((p.rows.map Rw.t).drop 1 ++ [T.tup [.str "tell", .int 0]])]]
theorem oddPr_no {p : Pg} (h : p.ok) : ∀ t ∈ oddPr p, m_is_program [t] = .ok (.bl false) := by
  have hN := h.n20
  have hN1 := h.n1
  intro t m
  simp only [oddPr, List.mem_cons, List.not_mem_nil, or_false] at m
  rcases m with rfl | rfl | rfl | rfl | rfl | rfl | rfl | rfl
  · have r1 : m_is_row [.tup [.str "go", .int 1], .int (0 : Nat), .int (1 : Nat), .int (1 : Nat)] = .ok (.bl false) := by
      have e := r_go (x := .int 1) (B := (0 : Nat)) (M := (1 : Nat)) (N := (1 : Nat)) rfl
      rw [e, wh_hi (by decide)]
    exact is_program_rows (B := 0) (M := 1) (L := [.tup [.str "go", .int 1]]) (by decide) (by decide) (by decide) (by decide) (by decide) (fun t m => by rw [List.mem_singleton.mp m]; exact ⟨_, r1⟩) (b := false) (by
      show (rw_ (.tup [.str "go", .int 1]) (.int (0 : Nat)) (.int (1 : Nat)) (.int (1 : Nat)) && true) = false
      unfold rw_
      rw [r1]
      rfl) (fun z => by cases z)
  · exact is_program_not rfl (fun l z => by cases z)
  · exact is_program_rlen h.b3 h.m1 h.m4 (.inl rfl)
  · exact is_program_box rfl (wh_hi (by decide))
  · exact is_program_most h.b3 rfl (by rfl)
  · have len : (p.rows.map Rw.t ++ [T.tup [.str "stop", .int 0]]).length = p.rows.length + 1 := by rw [List.length_append, List.length_map]; rfl
    by_cases h20 : p.rows.length = 20
    · exact is_program_rlen h.b3 h.m1 h.m4 (.inr (by rw [len]; omega))
    · have nst : ∀ N : T, m_is_row [.tup [.str "stop", .int 0], .int (p.B : Nat), .int (p.M : Nat), N] = .ok (.bl false) := fun N => n_stop (l := [.int 0]) (by decide)
      refine is_program_rows (b := false) h.b3 h.m1 h.m4 (by omega) (by omega) (fun t m => ?_) ?_ (fun z => by cases z)
      · rw [len]
        rcases List.mem_append.mp m with m | m
        · obtain ⟨r, hr, rfl⟩ := List.mem_map.mp m
          exact ⟨_, is_row_ok (row_mono (h.rows r hr) (Nat.le_succ _))⟩
        · rw [List.mem_singleton.mp m]
          exact ⟨_, nst _⟩
      · rw [List.all_append]
        have e : ([.tup [.str "stop", .int 0]] : List T).all (fun t => rw_ t (.int (p.B : Nat)) (.int (p.M : Nat)) (.int (p.rows.map Rw.t ++ [T.tup [.str "stop", .int 0]]).length)) = false := by
          show (rw_ (.tup [.str "stop", .int 0]) _ _ _ && true) = false
          unfold rw_
          rw [nst]
          rfl
        rw [e, Bool.and_false]
  · exact is_program_rnot h.b3 h.m1 h.m4 rfl (fun l z => by cases z)
  · have len : ((p.rows.map Rw.t).drop 1 ++ [T.tup [.str "tell", .int 0]]).length = p.rows.length := by rw [List.length_append, List.length_drop, List.length_map, List.length_singleton]; omega
    refine is_program_rows h.b3 h.m1 h.m4 (by omega) (by omega) (fun t m => ?_) rfl (fun _ => ⟨_, _, by rw [List.getLast?_concat], by rfl⟩)
    rw [len]
    rcases List.mem_append.mp m with m | m
    · obtain ⟨r, hr, rfl⟩ := List.mem_map.mp (List.mem_of_mem_drop m)
      exact ⟨_, is_row_ok (h.rows r hr)⟩
    · rw [List.mem_singleton.mp m]
      exact ⟨_, r_tell rfl⟩
end K08

namespace K08
open PySem PySem.Spec PyProof.Rows L2 Evl VS
/-! ### the odd places of the law -/
theorem whI {z N : Int} (h : ¬ (0 ≤ z ∧ z ≤ N)) : m_whole [.int z, .int 0, .int N] = .ok (.bl false) := by
  rw [whole_eq _ _ _ rfl]
  simp only [wh]
  by_cases h1 : 0 ≤ z
  · rw [decide_eq_false (fun z => h ⟨h1, z⟩), Bool.and_false]
  · rw [decide_eq_false h1, Bool.false_and]
def oIs (q : Pg) : T := .tup [.str "is", .int ((q.M : Nat) + 1)]
def oBy : T := .tup [.str "by", .int 0, .tup []]
theorem oIs_no (p q : Pg) : m_is_rule [p.t, q.t, oIs q] = .ok (.bl false) := by
  have e := isworth_int q ((q.M : Nat) + 1)
  rw [decide_eq_false (by omega : ¬ ((q.M : Nat) : Int) + 1 ≤ (q.M : Nat)), Bool.and_false] at e
  exact rule_is e
theorem oBy_no (p q : Pg) : m_is_rule [p.t, q.t, oBy] = .ok (.bl false) := by
  have w0 : m_whole [.int 0, .int 0, .int ((p.B : Nat) - 1)] = .ok (.bl (wh (.int 0) 0 ((p.B : Nat) - 1))) := whole_eq _ _ _ rfl
  have e := rule_by (p := p) (q := q) (x := .int 0) (ns := []) w0 (by decide) (fun t m => by cases m)
  rw [decide_eq_false (by show ¬ 0 = p.M + 1; omega), Bool.false_and, Bool.and_false] at e
  exact e
def someO (p q : Pg) : List T := [.non, .tup [.int 0, .int 0], .lst [.int 0, .int 0, .tup (rls q)], .tup [.int (p.rows.length : Nat), .int 0, .tup (rls q)], .tup [.int 0, .int (q.rows.length : Nat), .tup (rls q)], .tup [.int (-1), .int 0, .tup (rls q)],
  .tup [.int 0, .int 0, .lst (rls q)], .tup [.int 0, .int 0, .tup (rls q ++ [is0])], .tup [.bl true, .int 0, .tup (rls q)], .tup [.int 0, .int 0, .tup (rls q), .int 0],
  .tup [.int 0, .int 0, .tup ((rls q).drop 1 ++ [oIs q])], .tup [.int 0, .int 0, .tup ((rls q).drop 1 ++ [oBy])]]
theorem someO_no {p q : Pg} (hp : p.ok) (hq : q.ok) : ∀ t ∈ someO p q, m_is_place [p.t, q.t, t] = .ok (.bl false) := by
  intro t m
  have w0 : m_whole [.int 0, .int 0, .int ((p.rows.length : Nat) - 1)] = .ok (.bl true) := wh_in (n := 0) hp.n1
  have v0 : m_whole [.int 0, .int 0, .int ((q.rows.length : Nat) - 1)] = .ok (.bl true) := wh_in (n := 0) hq.n1
  have hB := hq.b3
  have hl : (rls q).length ≤ 99999 := by rw [rls_len]; exact le_big9 (by omega)
  have hn : ∀ t ∈ rls q, ∃ b, m_is_rule [p.t, q.t, t] = .ok (.bl b) := fun t m => ⟨true, rls_ok p q t m⟩
  have last : ∀ u : T, m_is_rule [p.t, q.t, u] = .ok (.bl false) → m_is_place [p.t, q.t, .tup [.int 0, .int 0, .tup ((rls q).drop 1 ++ [u])]] = .ok (.bl false) := fun u hu => by
    rw [place_gen w0 v0 (by rw [List.length_append, List.length_drop, rls_len]; exact le_big9 (by show q.B - 1 + 1 ≤ 1000; omega)) fun t m => by
      rcases List.mem_append.mp m with m | m
      · exact hn t (List.mem_of_mem_drop m)
      · rw [List.mem_singleton.mp m]; exact ⟨false, hu⟩]
    rw [List.all_append, show ([u].all fun t => bOf (m_is_rule [p.t, q.t, t])) = false from by
      show (bOf (m_is_rule [p.t, q.t, u]) && true) = false
      rw [hu]
      rfl, Bool.and_false, Bool.and_false, Bool.and_false, Bool.and_false]
  simp only [someO, List.mem_cons, List.not_mem_nil, or_false] at m
  rcases m with rfl | rfl | rfl | rfl | rfl | rfl | rfl | rfl | rfl | rfl | rfl | rfl
  · exact place_not rfl (fun _ e => by cases e)
  · exact place_len (by show 2 ≠ 3; decide)
  · exact place_not rfl (fun _ e => by cases e)
  · rw [place_gen (whI (by omega)) v0 hl hn, Bool.false_and]
  · rw [place_gen w0 (whI (by omega)) hl hn, Bool.false_and, Bool.and_false]
  · rw [place_gen (whI (by omega)) v0 hl hn, Bool.false_and]
  · exact place_lst w0 v0
  · rw [place_gen w0 v0 (by rw [List.length_append, rls_len]; exact le_big9 (by show q.B + 1 ≤ 1000; omega)) fun t m => by
      rcases List.mem_append.mp m with m | m
      · exact hn t m
      · rw [List.mem_singleton.mp m]; exact ⟨true, is0_ok p q⟩]
    rw [List.length_append, rls_len, decide_eq_false (by show ¬ q.B + 1 = q.B; omega), Bool.false_and, Bool.and_false, Bool.and_false]
  · rw [place_gen (whole_eq _ _ _ rfl) v0 hl hn, show wh (.bl true) 0 ((p.rows.length : Nat) - 1) = false from rfl, Bool.false_and]
  · exact place_len (by show 4 ≠ 3; decide)
  · exact last _ (oIs_no p q)
  · exact last _ (oBy_no p q)
def OddL (p q : Pg) (ps : List Pl) (t : T) : Prop := m_is_places [p.t, q.t, .lst (ps.map Pl.t ++ [t])] = .ok (.bl false)
theorem oddL_of {p q : Pg} {ps : List Pl} (hp : p.ok) (hq : q.ok) (h : Pls p q ps) {t : T} (ht : m_is_place [p.t, q.t, t] = .ok (.bl false)) : OddL p q ps t :=
  places_odd (fun u m => by
    rcases List.mem_append.mp m with m | m
    · obtain ⟨x, hx, rfl⟩ := List.mem_map.mp m
      exact ⟨true, is_place_ok hp hq (h.ok x hx)⟩
    · rw [List.mem_singleton.mp m]; exact ⟨false, ht⟩) (x := t) (List.mem_append_right _ (List.mem_singleton_self _)) ht
theorem oddL_again {p q : Pg} {ps : List Pl} (hp : p.ok) (hq : q.ok) (h : Pls p q ps) {x : Pl} (hx : x.ok p q) (hm : x.row ∈ ps.map Pl.row) : OddL p q ps x.t := by
  have em : ps.map Pl.t ++ [x.t] = (ps ++ [x]).map Pl.t := by rw [List.map_append]; rfl
  unfold OddL
  rw [em]
  by_cases hl : 20 < (ps ++ [x]).length
  · exact places_long (by rw [List.length_map]; exact hl)
  · rw [places_good hp hq (by omega) fun y m => by
      rcases List.mem_append.mp m with m | m
      · exact h.ok y m
      · rw [List.mem_singleton.mp m]; exact hx]
    rw [decide_eq_false]
    intro e
    have e1 : (ps ++ [x]).map rowI = ps.map rowI ++ [rowI x] := by rw [List.map_append]; rfl
    have e2 : rowI x ∈ ps.map rowI := by
      obtain ⟨y, hy, ey⟩ := List.mem_map.mp hm
      exact List.mem_map.mpr ⟨y, hy, by show ((y.row : Nat) : Int) = (x.row : Nat); rw [ey]⟩
    rw [e1, nub_snoc, if_pos ((mem_nub _ _).mpr e2)] at e
    have := nub_le (ps.map rowI)
    rw [List.length_map] at this
    rw [List.length_append, List.length_singleton] at e
    omega
theorem odd_fin {p q : Pg} {ps : List Pl} {L : List T} {c : Int} {x4 : Sl} (hL : ∀ t ∈ L, OddL p q ps t) (h0 : 0 < L.length) :
    VS.Good (OddL p q ps) (sRet (eB gIx (eW 5) (eB gMod (eW 3) (eU gLen (eW 5)))) [.sh p.t, .sh q.t, .sh (.lst (ps.map Pl.t)), .sh (.int c), x4, .sh (.lst L)]) := by
  obtain ⟨k, hk, lk⟩ := mod_nat c (L.length : Nat) (by omega)
  obtain ⟨t, ht, hn⟩ := pick_of hL (k := k) (by omega)
  have gl : gLen (.lst L) = some (.int (L.length : Nat)) := rfl
  exact pRet (P := VS.Good _) (eB_ok rfl (eB_ok rfl (eU_ok rfl gl) (by rw [gMod_ok (by omega), hk])) (by rw [gIx_lst, VS.atI_nat]; exact ht)) ⟨_, rfl, hn⟩
theorem odd_mid {p q : Pg} {ps : List Pl} (hp : p.ok) (hq : q.ok) (h : Pls p q ps) {L : List T} {c : Int} (hL : ∀ t ∈ L, OddL p q ps t) (h0 : 0 < L.length) (h12 : L.length ≤ 12) :
    VS.Good (OddL p q ps) ((sSeq (sIf (eB gNe (eW 2) (eLst aNil)) (sSet 5 (eB gAdd (eW 5) (eLst (aCons (eB gIx (eW 2) (eC (.int 0))) (aCons (eB gAdd (eSl (eB gIx (eW 2) (eC (.int 0))) oNone (oSome (eC (.int 1)))) (eTup (aCons (eC (.int 0)) (aCons (eV 4) aNil)))) aNil))))) sNx)
  (sRet (eB gIx (eW 5) (eB gMod (eW 3) (eU gLen (eW 5)))))) [.sh p.t, .sh q.t, .sh (.lst (ps.map Pl.t)), .sh (.int c), .sh (.tup (rls q)), .sh (.lst L)]) := by
  cases ps with
  | nil =>
    refine pIfF (P := VS.Good _) (eB_ok rfl (eLst_ok rfl (by show 0 ≤ 1000; decide)) (gNe_refl (by decide +kernel))) ?_
    refine pNx (P := VS.Good _) ?_
    exact odd_fin hL h0
  | cons x xs =>
    have gn : gNe (.lst ((x :: xs).map Pl.t)) (.lst []) = some (.bl true) := by
      have o1 := ok_plL 15 (x :: xs)
      unfold gNe
      rw [o1]
      rfl
    have gx : gIx (.lst ((x :: xs).map Pl.t)) (.int 0) = some x.t := by rw [gIx_lst, atI_0]; rfl
    have gs : ∀ x0 x1 x3 x4 x5, (eSl (eB gIx (eW 2) (eC (.int 0))) oNone (oSome (eC (.int 1)))) [x0, x1, .sh (.lst ((x :: xs).map Pl.t)), x3, x4, x5] = .ok (.tup [.int (x.row : Nat)]) := fun x0 x1 x3 x4 x5 => by
      have e : (eB gIx (eW 2) (eC (.int 0))) [x0, x1, .sh (.lst ((x :: xs).map Pl.t)), x3, x4, x5] = .ok x.t := eB_ok rfl rfl gx
      unfold eSl
      rw [e]
      rfl
    refine pIfT (P := VS.Good _) (eB_ok rfl (eLst_ok rfl (by show 0 ≤ 1000; decide)) gn) ?_
    refine pSet (P := VS.Good _) (eB_ok rfl (eLst_ok (aCons_ok (eB_ok rfl rfl gx) (aCons_ok (eB_ok (gs _ _ _ _ _) (eTup_ok (aCons_ok rfl (aCons_ok rfl rfl)) (by show 2 ≤ 1000; decide)) (gAdd_tup (by show 3 ≤ 1000; decide))) rfl)) (by show 2 ≤ 1000; decide)) (gAdd_lst (by show L.length + 2 ≤ 1000; omega))) ?_
    simp only [List.set_cons_succ, List.set_cons_zero]
    refine odd_fin (fun t m => ?_) (by rw [List.length_append]; omega)
    have hx := h.ok x List.mem_cons_self
    have hrow : x.row ∈ (x :: xs).map Pl.row := List.mem_map.mpr ⟨x, List.mem_cons_self, rfl⟩
    rcases List.mem_append.mp m with m | m
    · exact hL t m
    · simp only [List.mem_cons, List.not_mem_nil, or_false] at m
      rcases m with rfl | rfl
      · exact oddL_again hp hq h hx hrow
      · have e := oddL_again hp hq h (x := ⟨x.row, 0, List.replicate q.B (.is (some 0))⟩) ⟨hx.row, hq.n1, (pl0_ok hp hq).rules⟩ hrow
        have e2 : (List.replicate q.B (Rl.is (some 0))).map Rl.t = rls q := by rw [List.map_replicate]; rfl
        have e3 : Pl.t ⟨x.row, 0, List.replicate q.B (.is (some 0))⟩ = .tup ([.int (x.row : Nat)] ++ [.int 0, .tup (rls q)]) := by
          show T.tup [.int (x.row : Nat), .int 0, .tup ((List.replicate q.B (Rl.is (some 0))).map Rl.t)] = _
          rw [e2]
          rfl
        rw [e3] at e
        exact e
theorem odd_place_ok {p q : Pg} {ps : List Pl} (hp : p.ok) (hq : q.ok) (h : Pls p q ps) (c : Int) : ∃ t, m_law_odd_place [p.t, q.t, .lst (ps.map Pl.t), .int c] = .ok t ∧ OddL p q ps t := by
  have hB := hq.b3
  have p2 : gIx p.t (.int 2) = some (.lst (p.rows.map Rw.t)) := rfl
  have q2 : gIx q.t (.int 2) = some (.lst (q.rows.map Rw.t)) := rfl
  have q0 : gIx q.t (.int 0) = some (.int q.B) := rfl
  have q1 : gIx q.t (.int 1) = some (.int q.M) := rfl
  have pl : gLen (.lst (p.rows.map Rw.t)) = some (.int (p.rows.length : Nat)) := gLen_map _ _
  have ql : gLen (.lst (q.rows.map Rw.t)) = some (.int (q.rows.length : Nat)) := gLen_map _ _
  have hodd : ∀ t ∈ someO p q, OddL p q ps t := fun t m => oddL_of hp hq h (someO_no hp hq t m)
  refine def_P (Q := OddL p q ps) ?_
  show VS.Good (OddL p q ps) (b_law_odd_place [.sh p.t, .sh q.t, .sh (.lst (ps.map Pl.t)), .sh (.int c), .un, .un])
  unfold b_law_odd_place
  refine pSet (P := VS.Good _) (eU_ok (eB_ok (eLst_ok (aCons_ok (eTup_ok (aCons_ok rfl (aCons_ok rfl rfl)) (by show 2 ≤ 1000; decide)) rfl) (by show 1 ≤ 1000; decide)) (eB_ok rfl rfl q0) (gMul_rep is0 (by omega))) rfl) ?_
  simp only [List.set_cons_succ, List.set_cons_zero]
  refine pSet (P := VS.Good _) (eLst_ok (aCons_ok rfl (aCons_ok (eTup_ok (aCons_ok rfl (aCons_ok rfl rfl)) (by show 2 ≤ 1000; decide)) (aCons_ok (eLst_ok (aCons_ok rfl (aCons_ok rfl (aCons_ok rfl rfl))) (by show 3 ≤ 1000; decide)) (aCons_ok (eTup_ok (aCons_ok (eU_ok (eB_ok rfl rfl p2) pl) (aCons_ok rfl (aCons_ok rfl rfl))) (by show 3 ≤ 1000; decide)) (aCons_ok (eTup_ok (aCons_ok rfl (aCons_ok (eU_ok (eB_ok rfl rfl q2) ql) (aCons_ok rfl rfl))) (by show 3 ≤ 1000; decide)) (aCons_ok (eTup_ok (aCons_ok rfl (aCons_ok rfl (aCons_ok rfl rfl))) (by show 3 ≤ 1000; decide)) rfl)))))) (by show 6 ≤ 1000; decide)) ?_
  simp only [List.set_cons_succ, List.set_cons_zero]
  refine pSet (P := VS.Good _) (eB_ok rfl (eLst_ok (aCons_ok (eTup_ok (aCons_ok rfl (aCons_ok rfl (aCons_ok (eU_ok rfl rfl) rfl))) (by show 3 ≤ 1000; decide)) (aCons_ok (eTup_ok (aCons_ok rfl (aCons_ok rfl (aCons_ok (eB_ok rfl (eTup_ok (aCons_ok (eTup_ok (aCons_ok rfl (aCons_ok rfl rfl)) (by show 2 ≤ 1000; decide)) rfl) (by show 1 ≤ 1000; decide)) (gAdd_tup (by rw [List.length_replicate]; show q.B + 1 ≤ 1000; omega))) rfl))) (by show 3 ≤ 1000; decide)) (aCons_ok (eTup_ok (aCons_ok rfl (aCons_ok rfl (aCons_ok rfl rfl))) (by show 3 ≤ 1000; decide)) (aCons_ok (eTup_ok (aCons_ok rfl (aCons_ok rfl (aCons_ok rfl (aCons_ok rfl rfl)))) (by show 4 ≤ 1000; decide)) rfl)))) (by show 4 ≤ 1000; decide)) (gAdd_lst (by show 10 ≤ 1000; decide))) ?_
  simp only [List.set_cons_succ, List.set_cons_zero]
  have s1 : ∀ x0 x1 x2 x3 x5, (eSl (eW 4) (oSome (eC (.int 1))) oNone) [x0, x1, x2, x3, .sh (.tup (rls q)), x5] = .ok (.tup ((rls q).drop 1)) := fun x0 x1 x2 x3 x5 => by
    show Res.of (some (T.tup (cutT (rls q) (some 1) none))) = _
    rw [cutT_1]
    rfl
  have ld : ((rls q).drop 1).length + 1 ≤ 1000 := by rw [List.length_drop, rls_len]; omega
  refine pSet (P := VS.Good _) (eB_ok rfl (eLst_ok (aCons_ok (eTup_ok (aCons_ok rfl (aCons_ok rfl (aCons_ok (eB_ok (s1 _ _ _ _ _) (eTup_ok (aCons_ok (eTup_ok (aCons_ok rfl (aCons_ok (eB_ok (eB_ok rfl rfl q1) rfl rfl) rfl)) (by show 2 ≤ 1000; decide)) rfl) (by show 1 ≤ 1000; decide)) (gAdd_tup ld)) rfl))) (by show 3 ≤ 1000; decide)) (aCons_ok (eTup_ok (aCons_ok rfl (aCons_ok rfl (aCons_ok (eB_ok (s1 _ _ _ _ _) (eTup_ok (aCons_ok (eTup_ok (aCons_ok rfl (aCons_ok rfl (aCons_ok (eTup_ok rfl (by show 0 ≤ 1000; decide)) rfl))) (by show 3 ≤ 1000; decide)) rfl) (by show 1 ≤ 1000; decide)) (gAdd_tup ld)) rfl))) (by show 3 ≤ 1000; decide)) rfl)) (by show 2 ≤ 1000; decide)) (gAdd_lst (by show 12 ≤ 1000; decide))) ?_
  simp only [List.set_cons_succ, List.set_cons_zero]
  refine pIfS (P := VS.Good _) (eB_ok (eB_ok rfl rfl q0) rfl (gEq_int _ _)) (fun _ => ?_) (fun _ => ?_)
  · have s2 : ∀ x0 x1 x2 x3 x4, (eSl (eW 5) oNone (oSome (eC (.int 10)))) [x0, x1, x2, x3, x4, .sh (.lst (someO p q))] = .ok (.lst ((someO p q).take 10)) := fun x0 x1 x2 x3 x4 => by
      show Res.of (some (T.lst (cutT (someO p q) none (some ((10 : Nat) : Int))))) = _
      rw [cutT_lo]
      rfl
    refine pSet (P := VS.Good _) (s2 _ _ _ _ _) ?_
    simp only [List.set_cons_succ, List.set_cons_zero]
    exact odd_mid hp hq h (fun t m => hodd t (List.mem_of_mem_take m)) (by show 0 < 10; decide) (by show 10 ≤ 12; decide)
  · refine pNx (P := VS.Good _) ?_
    exact odd_mid hp hq h (L := someO p q) hodd (by show 0 < 12; decide) (by show 12 ≤ 12; decide)
end K08

namespace K08
open PySem PySem.Spec PyProof.Rows L2 Evl VS
theorem cutT_map {α β : Type} (f : α → β) (l : List α) (a b : Option Int) : cutT (l.map f) a b = (cutT l a b).map f := by
  unfold cutT
  rw [List.length_map, List.map_take, List.map_drop]
theorem cutT_sub {α : Type} (l : List α) (a b : Option Int) : (cutT l a b).Sublist l := by
  unfold cutT
  exact (List.take_sublist _ _).trans (List.drop_sublist _ _)
theorem cut_Pls {p q : Pg} {ps : List Pl} (h : Pls p q ps) (a b : Option Int) : Pls p q (cutT ps a b) :=
  ⟨fun x m => h.ok x ((cutT_sub ps a b).subset m), h.nd.sublist ((cutT_sub ps a b).map _), Nat.le_trans (cutT_sub ps a b).length_le h.len⟩
theorem pMid {P : Out → Prop} {f g : FS} {ρ : Ev'} (I : Ev' → Prop) (h : GoodN I (f ρ)) (k : ∀ ρ', I ρ' → P (g ρ')) : P (sSeq f g ρ) := by
  obtain ⟨ρ', e, i⟩ := h
  exact pSeq e (k ρ' i)
/-! ### the law -/
theorem ok_begs (n : Nat) (l : List (List Nat)) : okDs (n + 1) (l.map numsT) = true := by
  induction l with
  | nil => exact okDs_nil _
  | cons x xs ih => rw [List.map_cons, okDs_cons, ok_numsT, ih]; rfl
theorem ok_begL (l : List (List Nat)) : okD 20 (.lst (l.map numsT)) = true := by rw [okD_lst, ok_begs]
theorem ok_kept3 (p q : Pg) (ps : List Pl) : okD 20 (.lst [.lst (p.rows.map Rw.t), .lst (q.rows.map Rw.t), .lst (ps.map Pl.t)]) = true := by
  have e : ∀ p : Pg, okD 19 (.lst (p.rows.map Rw.t)) = true := fun p => by rw [okD_lst, okRows]
  rw [okD_lst, okDs_cons, okDs_cons, okDs_cons, okDs_nil, e p, e q, ok_plL 14]
  rfl
theorem eCallS_ok {n : Nat} {f : Mir} {fa : FA} {ρ : Ev'} {ts : List T} {b : Bool} (h1 : fa ρ = .ok ts) (h2 : ts.length = n) (h3 : f ts = .ok (.bl b)) : eCallS n f fa ρ = .ok (.bl b) := by
  unfold eCallS
  rw [h1]
  show (if ts.length = n then noPay (f ts) else .bad) = _
  rw [if_pos h2, h3]
  rfl
def due (b : Bool) : T := .lst [.str (if b then "places" else "program"), .str "value"]
theorem ok_due (b : Bool) : okD 20 (due b) = true := by cases b <;> decide +kernel
theorem law_ok (ns : List Int) : m_law [.fro ns] = .ok (.bl true) := by
  obtain ⟨c0, k0⟩ := cell_ok ns 0
  obtain ⟨c1, k1⟩ := cell_ok ns 1
  obtain ⟨c2, k2⟩ := cell_ok ns 2
  obtain ⟨c3, k3⟩ := cell_ok ns 3
  obtain ⟨c4, k4⟩ := cell_ok ns 4
  have k0 : m_law_cell_at [.fro ns, .int 0] = .ok (.int c0) := k0
  have k1 : m_law_cell_at [.fro ns, .int 1] = .ok (.int c1) := k1
  have k2 : m_law_cell_at [.fro ns, .int 2] = .ok (.int c2) := k2
  have k3 : m_law_cell_at [.fro ns, .int 3] = .ok (.int c3) := k3
  have k4 : m_law_cell_at [.fro ns, .int 4] = .ok (.int c4) := k4
  obtain ⟨p, hp1, hp, _⟩ := program_ok c0
  obtain ⟨q, hq1, hq, _⟩ := program_ok c1
  obtain ⟨ps0, hps1, hps0⟩ := places_ok c2 hp hq
  obtain ⟨j, ej, lj⟩ := mod_nat (c4 / 8) 8 (by decide)
  obtain ⟨w, ew, lw⟩ := mod_nat (c4 / 64) 5 (by decide)
  obtain ⟨t0, ht0, hn0⟩ := pick_of (oddPr_no hp) (k := j) (by show j < 8; omega)
  have W1 : ∀ y z, m_law_word [t0, y, z] = .ok (due false) := fun y z => word_program (looked_ex (places_no1 hn0))
  have W2 : ∀ z, m_law_word [p.t, t0, z] = .ok (due false) := fun z => word_program (looked_ex (places_no2 hp hn0))
  have W3 : ∀ ps : List Pl, Pls p q ps → ∃ t, m_law_odd_place [p.t, q.t, .lst (ps.map Pl.t), .int (c4 / 320)] = .ok t ∧ m_law_word [p.t, q.t, .lst (ps.map Pl.t ++ [t])] = .ok (due true) := fun ps h => by
    obtain ⟨t, h1, h2⟩ := odd_place_ok hp hq h (c4 / 320)
    exact ⟨t, h1, word_places (looked_ex (need_places_no hp hq h2))⟩
  have hLR : ∀ ps : List Pl, Pls p q ps → m_law_rules [.lst (ps.map Pl.t)] = .ok (lrT ps) := fun ps h => lrules_ok h.nd (by have := h.len; have := hp.n20; omega)
  have hMain : ∀ ps : List Pl, Pls p q ps → ∃ (b : Bool) (t : T), m_law_is_safe [p.t, lrT ps] = .ok (.bl b) ∧ m_looked [p.t, q.t, .lst (ps.map Pl.t)] = .ok t ∧ m_law_right [p.t, lrT ps, t, .bl b] = .ok (.bl true) := fun ps h => by
    obtain ⟨K, h1, h2, h3⟩ := is_safe_ok hp hq h
    obtain ⟨t, h4, h5⟩ := looked_ok hp hq h
    exact ⟨_, t, h1, h4, right_ok hp hq h h5 h2 h3⟩
  have b1 := begins_ok hp
  have b2 := begins_ok hq
  have lb1 := law_begins_ok hp
  have lb2 := law_begins_ok hq
  have len1 := begL_125 hp (Nat.le_refl _)
  have pb := plain_begins (M := p.M) (B := p.B) (by have := hp.b3; omega) (by omega)
  have ob1 := ok_begL (begL p.M p.B)
  have ob2 := ok_begL (begL q.M q.B)
  generalize begL p.M p.B = L1 at *
  generalize begL q.M q.B = L2 at *
  have ne1 := gNe_refl ob1
  have ne2 := gNe_refl ob2
  have p0 : gIx p.t (.int 0) = some (.int p.B) := rfl
  have p1 : gIx p.t (.int 1) = some (.int p.M) := rfl
  have p2 : gIx p.t (.int 2) = some (.lst (p.rows.map Rw.t)) := rfl
  have q2 : gIx q.t (.int 2) = some (.lst (q.rows.map Rw.t)) := rfl
  have hN := hp.n20
  refine fDef_rt ?_
  show b_law [.sh (.fro ns), .un, .un, .un, .un, .un, .un, .un, .un, .un, .un, .un, .un, .un, .un] = _
  unfold b_law
  clear hn0
  generalize m_law_program = F1 at *
  generalize m_law_cell_at = F2 at *
  generalize m_law_places = F3 at *
  generalize m_law_odd_place = F4 at *
  generalize m_law_word = F5 at *
  generalize m_law_rules = F6 at *
  generalize m_law_is_safe = F7 at *
  generalize m_looked = F8 at *
  generalize m_law_right = F9 at *
  generalize m_begins = F10 at *
  generalize m_law_begins = F11 at *
  generalize m_law_plain = F12 at *
  have kc : ∀ (k : Int) (z : Int) ρ, F2 [.fro ns, .int k] = .ok (.int z) → eCall 2 F2 (aCons (eV 0) (aCons (eC (.int k)) aNil)) (.sh (.fro ns) :: ρ) = .ok (.int z) := fun k z ρ h => eCall_ok (aCons_ok rfl (aCons_ok rfl rfl)) rfl h
  refine pSet (P := fun o => o = .rt (.bl true)) (eCall_ok (aCons_ok (kc _ _ _ k0) rfl) rfl hp1) ?_
  simp only [List.set_cons_succ, List.set_cons_zero]
  refine pSet (P := fun o => o = .rt (.bl true)) (eCall_ok (aCons_ok (kc _ _ _ k1) rfl) rfl hq1) ?_
  simp only [List.set_cons_succ, List.set_cons_zero]
  refine pSet (P := fun o => o = .rt (.bl true)) (eCall_ok (aCons_ok (kc _ _ _ k2) (aCons_ok rfl (aCons_ok rfl rfl))) rfl hps1) ?_
  simp only [List.set_cons_succ, List.set_cons_zero]
  refine pMid (P := fun o => o = .rt (.bl true)) (fun ρ => ∃ ps : List Pl, Pls p q ps ∧ ρ = [.sh (.fro ns), .sh p.t, .sh q.t, .sh (.lst (ps.map Pl.t)), .un, .un, .un, .un, .un, .un, .un, .un, .un, .un, .un]) ?_ ?_
  · refine pIf (P := GoodN _) (b := decide (c3 % 4 = 1)) (eB_ok (eB_ok (kc _ _ _ k3) rfl (gMod_ok (by decide))) rfl (gEq_int _ _)) (fun _ => ?_) (fun _ => ⟨_, rfl, ps0, hps0, rfl⟩)
    have hsl : (eSl (eW 3) oNone (oSome (eB gMod (eB gDiv (eCall 2 F2 (aCons (eV 0) (aCons (eC (.int 3)) aNil))) (eC (.int 4))) (eC (.int 2))))) [.sh (.fro ns), .sh p.t, .sh q.t, .sh (.lst (ps0.map Pl.t)), .un, .un, .un, .un, .un, .un, .un, .un, .un, .un, .un]
        = .ok (.lst ((cutT ps0 none (some (c3 / 4 % 2))).map Pl.t)) := by
      have e1 : (eB gMod (eB gDiv (eCall 2 F2 (aCons (eV 0) (aCons (eC (.int 3)) aNil))) (eC (.int 4))) (eC (.int 2))) [.sh (.fro ns), .sh p.t, .sh q.t, .sh (.lst (ps0.map Pl.t)), .un, .un, .un, .un, .un, .un, .un, .un, .un, .un, .un] = .ok (.int (c3 / 4 % 2)) :=
        eB_ok (eB_ok (kc _ _ _ k3) rfl (gDiv_ok (by decide) (by decide))) rfl (gMod_ok (by decide))
      rw [← cutT_map]
      show (Res.bind (oSome _ _) fun hi => Res.of (gSl (.lst (ps0.map Pl.t)) none hi)) = _
      unfold oSome
      rw [e1]
      rfl
    rw [sSet_ok hsl]
    exact ⟨_, rfl, _, cut_Pls hps0 _ _, rfl⟩
  rintro ρ ⟨ps, hps, rfl⟩
  refine pIfS (P := fun o => o = .rt (.bl true)) (b := decide (c4 % 8 = 1)) (eB_ok (eB_ok (kc _ _ _ k4) rfl (gMod_ok (by decide))) rfl (gEq_int _ _)) (fun _ => ?_) (fun _ => ?_)
  · obtain ⟨u, hu1, hu2⟩ := W3 ps hps
    have ga1 : gAdd (.lst (p.rows.map Rw.t)) (.lst [.tup [.str "stop", .int 0]]) = some (.lst (p.rows.map Rw.t ++ [.tup [.str "stop", .int 0]])) := gAdd_lst (by rw [List.length_map]; show p.rows.length + 1 ≤ 1000; omega)
    have ga2 : gAdd (.lst ((p.rows.map Rw.t).drop 1)) (.lst [.tup [.str "tell", .int 0]]) = some (.lst ((p.rows.map Rw.t).drop 1 ++ [.tup [.str "tell", .int 0]])) := gAdd_lst (by rw [List.length_drop, List.length_map]; show p.rows.length - 1 + 1 ≤ 1000; omega)
    have hsl : ∀ ρ, (eSl (eB gIx (eW 1) (eC (.int 2))) (oSome (eC (.int 1))) oNone) (.sh (.fro ns) :: .sh p.t :: ρ) = .ok (.lst ((p.rows.map Rw.t).drop 1)) := fun ρ => by
      have e1 : (eB gIx (eW 1) (eC (.int 2))) (.sh (.fro ns) :: .sh p.t :: ρ) = .ok (.lst (p.rows.map Rw.t)) := eB_ok rfl rfl p2
      unfold eSl
      rw [e1]
      show Res.of (some (T.lst (cutT (p.rows.map Rw.t) (some 1) none))) = _
      rw [cutT_1]
      rfl
    refine pAssoc (P := fun o => o = .rt (.bl true)) ?_
    refine pSet (P := fun o => o = .rt (.bl true)) (eLst_ok (aCons_ok (eTup_ok (aCons_ok rfl (aCons_ok rfl (aCons_ok (eLst_ok (aCons_ok (eTup_ok (aCons_ok rfl (aCons_ok rfl rfl)) (by show 2 ≤ 1000; decide)) rfl) (by show 1 ≤ 1000; decide)) rfl))) (by show 3 ≤ 1000; decide)) (aCons_ok rfl (aCons_ok (eTup_ok (aCons_ok (eB_ok rfl rfl p0) (aCons_ok (eB_ok rfl rfl p1) (aCons_ok (eLst_ok rfl (by show 0 ≤ 1000; decide)) rfl))) (by show 3 ≤ 1000; decide)) (aCons_ok (eTup_ok (aCons_ok rfl (aCons_ok (eB_ok rfl rfl p1) (aCons_ok (eB_ok rfl rfl p2) rfl))) (by show 3 ≤ 1000; decide)) (aCons_ok (eTup_ok (aCons_ok (eB_ok rfl rfl p0) (aCons_ok rfl (aCons_ok (eB_ok rfl rfl p2) rfl))) (by show 3 ≤ 1000; decide)) rfl))))) (by show 5 ≤ 1000; decide)) ?_
    simp only [List.set_cons_succ, List.set_cons_zero]
    refine pAssoc (P := fun o => o = .rt (.bl true)) ?_
    refine pSet (P := fun o => o = .rt (.bl true)) (eB_ok rfl (eLst_ok (aCons_ok (eTup_ok (aCons_ok (eB_ok rfl rfl p0) (aCons_ok (eB_ok rfl rfl p1) (aCons_ok (eB_ok (eB_ok rfl rfl p2) (eLst_ok (aCons_ok (eTup_ok (aCons_ok rfl (aCons_ok rfl rfl)) (by show 2 ≤ 1000; decide)) rfl) (by show 1 ≤ 1000; decide)) ga1) rfl))) (by show 3 ≤ 1000; decide)) (aCons_ok (eTup_ok (aCons_ok (eB_ok rfl rfl p0) (aCons_ok (eB_ok rfl rfl p1) (aCons_ok (eU_ok (eB_ok rfl rfl p2) rfl) rfl))) (by show 3 ≤ 1000; decide)) rfl)) (by show 2 ≤ 1000; decide)) (gAdd_lst (by show 7 ≤ 1000; decide))) ?_
    simp only [List.set_cons_succ, List.set_cons_zero]
    refine pAssoc (P := fun o => o = .rt (.bl true)) ?_
    have h8 : gIx (.lst (oddPr p)) (.int (j : Nat)) = some t0 := by rw [gIx_lst, VS.atI_nat]; exact ht0
    refine pSet (P := fun o => o = .rt (.bl true)) (eB_ok (eB_ok rfl (eLst_ok (aCons_ok (eTup_ok (aCons_ok (eB_ok rfl rfl p0) (aCons_ok (eB_ok rfl rfl p1) (aCons_ok (eB_ok (hsl _) (eLst_ok (aCons_ok (eTup_ok (aCons_ok rfl (aCons_ok rfl rfl)) (by show 2 ≤ 1000; decide)) rfl) (by show 1 ≤ 1000; decide)) ga2) rfl))) (by show 3 ≤ 1000; decide)) rfl) (by show 1 ≤ 1000; decide)) (gAdd_lst (by show 8 ≤ 1000; decide))) (eB_ok (eB_ok (kc _ _ _ k4) rfl (gDiv_ok (by decide) (by decide))) rfl (by rw [gMod_ok (by decide), ej])) h8) ?_
    simp only [List.set_cons_succ, List.set_cons_zero]
    refine pAssoc (P := fun o => o = .rt (.bl true)) ?_
    refine pSet (P := fun o => o = .rt (.bl true)) (eB_ok (eB_ok (kc _ _ _ k4) rfl (gDiv_ok (by decide) (by decide))) rfl (by rw [gMod_ok (by decide), ew])) ?_
    simp only [List.set_cons_succ, List.set_cons_zero]
    refine pAssoc (P := fun o => o = .rt (.bl true)) ?_
    refine pSet (P := fun o => o = .rt (.bl true)) (eLst_ok (aCons_ok (eTup_ok (aCons_ok rfl (aCons_ok rfl (aCons_ok rfl rfl))) (by show 3 ≤ 1000; decide)) (aCons_ok (eTup_ok (aCons_ok rfl (aCons_ok rfl (aCons_ok rfl rfl))) (by show 3 ≤ 1000; decide)) (aCons_ok (eTup_ok (aCons_ok rfl (aCons_ok rfl (aCons_ok rfl rfl))) (by show 3 ≤ 1000; decide)) rfl))) (by show 3 ≤ 1000; decide)) ?_
    simp only [List.set_cons_succ, List.set_cons_zero]
    refine pAssoc (P := fun o => o = .rt (.bl true)) ?_
    refine pSet (P := fun o => o = .rt (.bl true)) (eCall_ok (aCons_ok rfl (aCons_ok rfl (aCons_ok rfl (aCons_ok (eB_ok (kc _ _ _ k4) rfl (gDiv_ok (by decide) (by decide))) rfl)))) rfl hu1) ?_
    simp only [List.set_cons_succ, List.set_cons_zero]
    have ga3 : gAdd (.lst (ps.map Pl.t)) (.lst [u]) = some (.lst (ps.map Pl.t ++ [u])) := gAdd_lst (by rw [List.length_map]; show ps.length + 1 ≤ 1000; have := hps.len; omega)
    have hA : ∃ a b c : T, gIx (.lst [.tup [t0, q.t, .lst (ps.map Pl.t)], .tup [p.t, t0, .lst (ps.map Pl.t)], .tup [t0, q.t, .non], .tup [p.t, t0, .lst [.non]], .tup [p.t, q.t, .lst (ps.map Pl.t ++ [u])]]) (.int (w : Nat)) = some (.tup [a, b, c]) ∧ F5 [a, b, c] = .ok (due (decide ((w : Int) = 4))) := by
      have : w = 0 ∨ w = 1 ∨ w = 2 ∨ w = 3 ∨ w = 4 := by omega
      rcases this with rfl | rfl | rfl | rfl | rfl
      · exact ⟨_, _, _, rfl, W1 _ _⟩
      · exact ⟨_, _, _, rfl, W2 _⟩
      · exact ⟨_, _, _, rfl, W1 _ _⟩
      · exact ⟨_, _, _, rfl, W2 _⟩
      · exact ⟨_, _, _, rfl, hu2⟩
    obtain ⟨a, b, c, hA1, hA2⟩ := hA
    have i0 : gIx (.tup [a, b, c]) (.int 0) = some a := rfl
    have i1 : gIx (.tup [a, b, c]) (.int 1) = some b := rfl
    have i2 : gIx (.tup [a, b, c]) (.int 2) = some c := rfl
    refine pAssoc (P := fun o => o = .rt (.bl true)) ?_
    refine pSet (P := fun o => o = .rt (.bl true)) (eB_ok (eB_ok rfl (eLst_ok (aCons_ok (eTup_ok (aCons_ok rfl (aCons_ok rfl (aCons_ok (eLst_ok (aCons_ok rfl rfl) (by show 1 ≤ 1000; decide)) rfl))) (by show 3 ≤ 1000; decide)) (aCons_ok (eTup_ok (aCons_ok rfl (aCons_ok rfl (aCons_ok (eB_ok rfl (eLst_ok (aCons_ok rfl rfl) (by show 1 ≤ 1000; decide)) ga3) rfl))) (by show 3 ≤ 1000; decide)) rfl)) (by show 2 ≤ 1000; decide)) (gAdd_lst (by show 5 ≤ 1000; decide))) rfl hA1) ?_
    simp only [List.set_cons_succ, List.set_cons_zero]
    have pk : ∀ b : Bool, gIx (.lst [.str "program", .str "places"]) (.int (if b then 1 else 0)) = some (.str (if b then "places" else "program")) := fun b => by cases b <;> rfl
    have gi : ∀ b : Bool, gInt (.bl b) = some (.int (if b then 1 else 0)) := fun b => by cases b <;> rfl
    refine pAssoc (P := fun o => o = .rt (.bl true)) ?_
    refine pSet (P := fun o => o = .rt (.bl true)) (t := due (decide ((w : Int) = 4))) (eLst_ok (aCons_ok (eB_ok (eLst_ok (aCons_ok rfl (aCons_ok rfl rfl)) (by show 2 ≤ 1000; decide)) (eU_ok (eB_ok rfl rfl (gEq_int _ _)) (gi _)) (pk _)) (aCons_ok rfl rfl)) (by show 2 ≤ 1000; decide)) ?_
    simp only [List.set_cons_succ, List.set_cons_zero]
    exact pRetS (P := fun o => o = .rt (.bl true)) (eB_ok (eCall_ok (aCons_ok (eB_ok rfl rfl i0) (aCons_ok (eB_ok rfl rfl i1) (aCons_ok (eB_ok rfl rfl i2) rfl))) rfl hA2) rfl (gEq_refl (ok_due _))) rfl
  · refine pNx (P := fun o => o = .rt (.bl true)) ?_
    obtain ⟨b, t, m1, m2, m3⟩ := hMain ps hps
    have lr := hLR ps hps
    have okk := ok_kept3 p q ps
    generalize lrT ps = LR at *
    refine pSet (P := fun o => o = .rt (.bl true)) (eCall_ok (aCons_ok rfl rfl) rfl lr) ?_
    simp only [List.set_cons_succ, List.set_cons_zero]
    refine pSet (P := fun o => o = .rt (.bl true)) (eCall_ok (aCons_ok rfl (aCons_ok rfl rfl)) rfl m1) ?_
    simp only [List.set_cons_succ, List.set_cons_zero]
    refine pSet (P := fun o => o = .rt (.bl true)) (eLst_ok (aCons_ok (eU_ok (eB_ok rfl rfl p2) rfl) (aCons_ok (eU_ok (eB_ok rfl rfl q2) rfl) (aCons_ok (eU_ok rfl rfl) rfl))) (by show 3 ≤ 1000; decide)) ?_
    simp only [List.set_cons_succ, List.set_cons_zero]
    refine pSet (P := fun o => o = .rt (.bl true)) (eCall_ok (aCons_ok rfl (aCons_ok rfl (aCons_ok rfl rfl))) rfl m2) ?_
    simp only [List.set_cons_succ, List.set_cons_zero]
    refine pIfF (P := fun o => o = .rt (.bl true)) (eNot_bl (a := true) (eCall_ok (aCons_ok rfl (aCons_ok rfl (aCons_ok rfl (aCons_ok rfl rfl)))) rfl m3)) ?_
    refine pNx (P := fun o => o = .rt (.bl true)) ?_
    refine pNew (P := fun o => o = .rt (.bl true)) (eCall_ok (aCons_ok rfl rfl) rfl b1) ?_
    simp only [List.set_cons_succ, List.set_cons_zero]
    refine pIfF (P := fun o => o = .rt (.bl true)) (eOr_bl (a := false) (b := false) (eNot_bl (a := true) (eU_ok rfl rfl)) fun _ => eOr_bl (a := false) (b := false) (eB_ok rfl (eCall_ok (aCons_ok rfl rfl) rfl lb1) ne1) fun _ => eNot_bl (a := true) (eCallS_ok (aCons_ok rfl rfl) rfl pb)) ?_
    refine pNx (P := fun o => o = .rt (.bl true)) ?_
    refine pSet (P := fun o => o = .rt (.bl true)) (eU_ok rfl rfl) ?_
    simp only [List.set_cons_succ, List.set_cons_zero]
    refine pIfF (P := fun o => o = .rt (.bl true)) (eOr_bl (a := false) (b := false) (eB_ok (eCall_ok (aCons_ok rfl rfl) rfl b2) (eCall_ok (aCons_ok rfl rfl) rfl lb2) ne2) fun _ => eB_ok rfl rfl ne1) ?_
    refine pNx (P := fun o => o = .rt (.bl true)) ?_
    refine pSeq (P := fun o => o = .rt (.bl true)) (f := sClr 13) rfl ?_
    simp only [List.set_cons_succ, List.set_cons_zero]
    refine pIfF (P := fun o => o = .rt (.bl true)) (eB_ok (eCall_ok (aCons_ok rfl rfl) rfl b1) rfl ne1) ?_
    refine pNx (P := fun o => o = .rt (.bl true)) ?_
    refine pSet (P := fun o => o = .rt (.bl true)) (eCall_ok (aCons_ok rfl (aCons_ok rfl (aCons_ok rfl rfl))) rfl m2) ?_
    simp only [List.set_cons_succ, List.set_cons_zero]
    exact pRet (P := fun o => o = .rt (.bl true)) (eAnd_bl (a := true) (b := true) (eCall_ok (aCons_ok rfl (aCons_ok rfl (aCons_ok rfl (aCons_ok rfl rfl)))) rfl m3) fun _ => eB_ok rfl (eLst_ok (aCons_ok (eB_ok rfl rfl p2) (aCons_ok (eB_ok rfl rfl q2) (aCons_ok rfl rfl))) (by show 3 ≤ 1000; decide)) (gEq_refl okk)) rfl
end K08

open PySem PySem.W PyProof.Rows
theorem PySem.Challenge.cw_liveswap_k08_whole_looked_holds : PySem.Challenge.rw_liveswap_k08_whole_looked.Holds := by
  exact K08.holds_of fun nums _ => K08.law_ok nums
